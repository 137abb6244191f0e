/-
  What is proved: slices of one, two and three parts that a call builds read as these parts; and the law text asks of the program three fixed answers ahead of all else: they are as it asks. No condition.
-/
import Derived.Test.YtpaagokojjcdgaaSteps
import Derived.Lib.SlBytesConst
namespace Go.Proofs.Ytpaagokojjcdgaa
open Go.RowKit

theorem heap_at (w : World) (o : Obj) (k : Nat) (hk : k = w.heap.size) : (w.alloc o).heap[k]? = some o := by
  subst hk
  exact heap_alloc_new w o
theorem Hold.new (w : World) (m : List UInt8) (t : TypeId) (fr : Nat × Nat) (k : Nat) (hk : k = w.heap.size) : Hold (w.alloc (.cells (bv m).toArray t fr)) (some ⟨k, 0, none⟩) m.length m.length m := by
  subst hk
  refine ⟨rfl, Nat.le_refl _, (fun e => by cases e), fun _ => ⟨w.heap.size, 0, rfl, fun j hj => ?_⟩⟩
  rw [cell_of_row _ w.heap.size (0 + j) (bv m).toArray t fr (heap_alloc_new w _)]
  have := (bv_get m j (.int .u8 (m[j].toNat : Int))).2 ⟨hj, rfl⟩
  simpa using this

theorem Parts.none_ (w : World) : Parts w none 0 [] := ⟨rfl, by simp, by simp, fun h => absurd h (by omega)⟩
/-- a row of one part that is built in w -/
theorem Parts.one {w : World} {A : Option Addr} {n c : Nat} {l : List UInt8} (h : Hold w A n c l) (hn : n ≤ 140737488355328) (k : Nat) (hk : k = w.heap.size) :
    Parts (w.alloc (.cells #[.slice A n c] 27)) (some ⟨k, 0, none⟩) 1 [(A, n, c, l)] := by
  have hb : Below w.heap.size w (w.alloc (.cells #[.slice A n c] 27)) := (Below.refl _ _).alloc (Nat.le_refl _) _
  refine ⟨rfl, ?_, ?_, fun _ => ⟨k, 0, rfl, fun j hj => ?_⟩⟩
  · intro p hp
    simp at hp
    subst hp
    exact h.below hb
  · intro p hp
    simp at hp
    subst hp
    exact hn
  · rw [cell_of_row _ k (0 + j) _ 27 (0, 0) (heap_at w _ k hk)]
    match j, hj with
    | 0, _ => rfl
theorem Parts.two {w : World} {A A2 : Option Addr} {n c n2 c2 : Nat} {l l2 : List UInt8} (h : Hold w A n c l) (h2 : Hold w A2 n2 c2 l2) (hn : n ≤ 140737488355328) (hn2 : n2 ≤ 140737488355328) (k : Nat) (hk : k = w.heap.size) :
    Parts (w.alloc (.cells #[.slice A n c, .slice A2 n2 c2] 27)) (some ⟨k, 0, none⟩) 2 [(A, n, c, l), (A2, n2, c2, l2)] := by
  have hb : Below w.heap.size w (w.alloc (.cells #[.slice A n c, .slice A2 n2 c2] 27)) := (Below.refl _ _).alloc (Nat.le_refl _) _
  refine ⟨rfl, ?_, ?_, fun _ => ⟨k, 0, rfl, fun j hj => ?_⟩⟩
  · intro p hp
    simp at hp
    rcases hp with rfl | rfl
    · exact h.below hb
    · exact h2.below hb
  · intro p hp
    simp at hp
    rcases hp with rfl | rfl
    · exact hn
    · exact hn2
  · rw [cell_of_row _ k (0 + j) _ 27 (0, 0) (heap_at w _ k hk)]
    match j, hj with
    | 0, _ => rfl
    | 1, _ => rfl
theorem Parts.three {w : World} {A A2 A3 : Option Addr} {n c n2 c2 n3 c3 : Nat} {l l2 l3 : List UInt8} (h : Hold w A n c l) (h2 : Hold w A2 n2 c2 l2) (h3 : Hold w A3 n3 c3 l3) (hn : n ≤ 140737488355328) (hn2 : n2 ≤ 140737488355328) (hn3 : n3 ≤ 140737488355328) (k : Nat) (hk : k = w.heap.size) :
    Parts (w.alloc (.cells #[.slice A n c, .slice A2 n2 c2, .slice A3 n3 c3] 27)) (some ⟨k, 0, none⟩) 3 [(A, n, c, l), (A2, n2, c2, l2), (A3, n3, c3, l3)] := by
  have hb : Below w.heap.size w (w.alloc (.cells #[.slice A n c, .slice A2 n2 c2, .slice A3 n3 c3] 27)) := (Below.refl _ _).alloc (Nat.le_refl _) _
  refine ⟨rfl, ?_, ?_, fun _ => ⟨k, 0, rfl, fun j hj => ?_⟩⟩
  · intro p hp
    simp at hp
    rcases hp with rfl | rfl | rfl
    · exact h.below hb
    · exact h2.below hb
    · exact h3.below hb
  · intro p hp
    simp at hp
    rcases hp with rfl | rfl | rfl
    · exact hn
    · exact hn2
    · exact hn3
  · rw [cell_of_row _ k (0 + j) _ 27 (0, 0) (heap_at w _ k hk)]
    match j, hj with
    | 0, _ => rfl
    | 1, _ => rfl
    | 2, _ => rfl

/-- the sum of one part, as a call has it that builds the row of it -/
theorem sum_one (A : Option Addr) (n c : Nat) (l : List UInt8) (w : World) (h : Hold w A n c l) (hn : n ≤ 140737488355328) (k : Nat) (hk : k = w.heap.size) :
    Calls Try.prog 12 #[.slice (some ⟨k, 0, none⟩) 1 1] (w.alloc (.cells #[.slice A n c] 27)) fun e w' => e = .returned (.int .u32 ((crc l : Nat) : Int)) ∧ w.alloc (.cells #[.slice A n c] 27) = w' := by
  have := sum_any (some ⟨k, 0, none⟩) 1 1 _ _ (Parts.one h hn k hk) (by omega)
  simpa [cat] using this
theorem sum_two (A A2 : Option Addr) (n c n2 c2 : Nat) (l l2 : List UInt8) (w : World) (h : Hold w A n c l) (h2 : Hold w A2 n2 c2 l2) (hn : n ≤ 140737488355328) (hn2 : n2 ≤ 140737488355328) (k : Nat) (hk : k = w.heap.size) :
    Calls Try.prog 12 #[.slice (some ⟨k, 0, none⟩) 2 2] (w.alloc (.cells #[.slice A n c, .slice A2 n2 c2] 27)) fun e w' => e = .returned (.int .u32 ((crc (l ++ l2) : Nat) : Int)) ∧ w.alloc (.cells #[.slice A n c, .slice A2 n2 c2] 27) = w' := by
  have := sum_any (some ⟨k, 0, none⟩) 2 2 _ _ (Parts.two h h2 hn hn2 k hk) (by omega)
  simpa [cat] using this
theorem sum_three (A A2 A3 : Option Addr) (n c n2 c2 n3 c3 : Nat) (l l2 l3 : List UInt8) (w : World) (h : Hold w A n c l) (h2 : Hold w A2 n2 c2 l2) (h3 : Hold w A3 n3 c3 l3) (hn : n ≤ 140737488355328) (hn2 : n2 ≤ 140737488355328) (hn3 : n3 ≤ 140737488355328) (k : Nat) (hk : k = w.heap.size) :
    Calls Try.prog 12 #[.slice (some ⟨k, 0, none⟩) 3 3] (w.alloc (.cells #[.slice A n c, .slice A2 n2 c2, .slice A3 n3 c3] 27)) fun e w' => e = .returned (.int .u32 ((crc (l ++ (l2 ++ l3)) : Nat) : Int)) ∧ w.alloc (.cells #[.slice A n c, .slice A2 n2 c2, .slice A3 n3 c3] 27) = w' := by
  have := sum_any (some ⟨k, 0, none⟩) 3 3 _ _ (Parts.three h h2 h3 hn hn2 hn3 k hk) (by omega)
  simpa [cat] using this

theorem crc_all : crc [49, 50, 51, 52, 53, 54, 55, 56, 57] = 3421780262 := by decide +kernel
theorem crc_none : crc [] = 0 := by decide +kernel
theorem crc_four : crc [49, 50, 51, 52] = 2615402659 := by decide +kernel
theorem crc_five : crc [53, 54, 55, 56, 57] = 320708720 := by decide +kernel
theorem crc_both : zs 5 2615402659 ^^^ 320708720 = 3421780262 := by decide +kernel

/-- the sum of bytes that the text itself writes -/
theorem sum_lit (l : List UInt8) (x : Nat) (hx : crc l = x) (w W : World) (hW : Below w.heap.size w W) (cs : Array Value) (hcs : cs = (bv l).toArray) (n : Nat) (hn : n = l.length) (hn' : n ≤ 100) (k k2 : Nat) (hk : k = W.heap.size) (hk2 : k2 = W.heap.size + 1) (fr : Nat × Nat) :
    Calls Try.prog 12 #[.slice (some ⟨k2, 0, none⟩) 1 1] ((W.alloc (.cells cs 5 fr)).alloc (.cells #[.slice (some ⟨k, 0, none⟩) n n] 27)) fun e w' => e = .returned (.int .u32 (x : Int)) ∧ Below w.heap.size w w' := by
  subst hcs hn
  refine (sum_one (some ⟨k, 0, none⟩) l.length l.length l _ (Hold.new W l 5 fr k hk) (by omega) k2 (by simp; omega)).mono ?_
  rintro e w' ⟨rfl, rfl⟩
  exact ⟨by rw [hx], (hW.alloc hW.size _).alloc (by have := hW.size; simp; omega) _⟩

set_option maxHeartbeats 1000000 in
theorem awake_any (w : World) : Calls Try.prog 8 #[] w fun e w' => e = .returned (.bool true) ∧ Below w.heap.size w w' := by
  have hj := fun W => join_any 2615402659 320708720 5 W (by decide) (by decide) (by decide)
  rw [crc_both] at hj
  have HJ := Lib.hid hj
  clear hj
  have hn0 := fun W => sum_any none 0 0 [] W (Parts.none_ W) (by omega)
  have HN := Lib.hid hn0
  clear hn0
  have kc := fun (w : World) (C : Array Value) (n c : Nat) => Lib.run_convert_bytes_const (P := Try.prog) w 27 5 C n c Try.underlying27 Try.underlying5
  go_enter Try.func8, Try.ntmps8
  go_wp2_with fail
  refine (sum_lit [49, 50, 51, 52, 53, 54, 55, 56, 57] _ crc_all w w (Below.refl _ _) _ rfl _ rfl (by decide) _ _ rfl rfl _).mono ?_
  rintro e w1 ⟨rfl, b1⟩
  go_wp2_with fail
  refine (HN.out w1).mono ?_
  rintro e w2 ⟨rfl, rfl⟩
  have hz : crc (cat []) = 0 := crc_none
  rw [hz]
  clear hz
  go_wp2_with fail
  refine (sum_lit [49, 50, 51, 52] _ crc_four w w1 b1 _ rfl _ rfl (by decide) _ _ rfl rfl _).mono ?_
  rintro e w3 ⟨rfl, b3⟩
  go_wp2_with fail
  refine (sum_lit [53, 54, 55, 56, 57] _ crc_five w w3 b3 _ rfl _ rfl (by decide) _ _ rfl rfl _).mono ?_
  rintro e w4 ⟨rfl, b4⟩
  go_wp2_with fail
  refine (HJ.out w4).mono ?_
  rintro e w5 ⟨rfl, rfl⟩
  go_wp2
  go_ret
  exact ⟨rfl, b4⟩
end Go.Proofs.Ytpaagokojjcdgaa
