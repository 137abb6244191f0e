/-
  What is proved: a slice of changes in memory (HC), and the library's functions at no element. Conditions: those in each statement.
-/
import Derived.Test.YtbfhlleipeipbaaSlp
import Derived.Test.YtbfhlleipeipbaaCf
import Derived.Test.YtbfhlleipeipbaaDisk
import Derived.Shelf.SlicesQ.Reverse
import Derived.Shelf.SlicesE.Clone
import Derived.Laws.OwnMore
namespace Go.Proofs
open Go.Shelf
namespace Ytbfhlleipeipbaa
open Go.RowKit Go.Lib Go.Sort

/-- The cells of changes, one behind the other. -/
def chV (l : List Cg) : List Value := (l.map encC).flatten
theorem chV_each (l : List Cg) : ∀ x ∈ l.map encC, x.length = 3 := fun x hx => by
  obtain ⟨c, _, rfl⟩ := List.mem_map.1 hx; rfl
theorem chV_length (l : List Cg) : (chV l).length = l.length * 3 := by
  unfold chV; rw [flat_length 3 _ (chV_each l), List.length_map]
theorem chV_get (l : List Cg) (i j : Nat) (hi : i < l.length) (hj : j < 3) : (chV l)[i * 3 + j]? = (encC l[i])[j]? := by
  unfold chV; rw [flat_get 3 _ (chV_each l) i j (by simpa using hi) hj]; simp
theorem chV_append (a b : List Cg) : chV (a ++ b) = chV a ++ chV b := by unfold chV; rw [List.map_append, List.flatten_append]
theorem chV_one (l : List Cg) : ∀ v ∈ chV l, v.oneCell' = true := fun v hv => by
  obtain ⟨x, hx, hv⟩ := List.mem_flatten.1 hv
  obtain ⟨c, _, rfl⟩ := List.mem_map.1 hx
  exact encC_one c v hv
theorem flatK_get3 (l : List Cg) (t : Nat) (h : t < l.length * 3) : (flatK encC 3 l.toArray)[t]! = (chV l)[t]'(by rw [chV_length]; exact h) := by
  have hd : t / 3 < l.length := by omega
  rw [get_flatK _ _ _ t (by simpa using h)]
  have e := chV_get l (t / 3) (t % 3) hd (by omega)
  rw [show t / 3 * 3 + t % 3 = t by omega, List.getElem?_eq_getElem (by rw [chV_length]; exact h)] at e
  have h3 : t % 3 < (encC l[t / 3]).length := by rw [encC_len]; omega
  rw [List.getElem?_eq_getElem h3] at e
  injection e with e
  rw [e]
  have : l.toArray[t / 3]! = l[t / 3] := by simp [hd]
  rw [this, getElem!_pos (encC l[t / 3]) (t % 3) h3]
/-- A row of the call's own, as the sort asks it. -/
theorem own_holdsK {w : World} {base g cap : Nat} {l : List Cg} (h : w.ownsRow base 52 3 (.slice (some ⟨g, 0, none⟩) l.length cap) l.length (chV l)) : HoldsK encC 3 w g 0 l.toArray := fun t ht => by
  have ht' : t < l.length * 3 := by simpa using ht
  refine ⟨?_, ?_⟩
  · rw [Nat.zero_add, h.cellAt t ht', flatK_get3 l t ht', List.getElem?_eq_getElem (by rw [chV_length]; exact ht')]; rfl
  · rw [Nat.zero_add]; exact h.frozenAt t
theorem holdsK_cells {w : World} {b o : Nat} {l : List Cg} (h : HoldsK encC 3 w b o l.toArray) : ∀ j u, (chV l)[j]? = some u → w.cell? ⟨b, o + j, none⟩ = some u := fun j u hu => by
  have hj : j < l.length * 3 := by have := (List.getElem?_eq_some_iff.1 hu).1; rwa [chV_length] at this
  rw [(h j (by simpa using hj)).1, flatK_get3 l j hj]
  rw [List.getElem?_eq_getElem (by rw [chV_length]; exact hj)] at hu
  exact hu
/-- The slice value .slice A n c reads as the changes l. -/
def HC (w : World) (A : Option Addr) (n c : Nat) (l : List Cg) : Prop :=
  l.length = n ∧ n ≤ c ∧ (0 < n → ∃ b o, A = some ⟨b, o, none⟩ ∧ b < w.heap.size ∧ HoldsK encC 3 w b o l.toArray) ∧ (A = none ∨ ∃ b o, A = some ⟨b, o, none⟩)
theorem HC.nil (w : World) {A : Option Addr} (c : Nat) (hA : A = none ∨ ∃ b o, A = some ⟨b, o, none⟩) : HC w A 0 c [] := ⟨rfl, Nat.zero_le _, fun h => absurd h (Nat.not_lt_zero _), hA⟩
theorem HC.below {w w' : World} {A : Option Addr} {n c : Nat} {l : List Cg} (h : HC w A n c l) (hb : Below w.heap.size w w') : HC w' A n c l :=
  ⟨h.1, h.2.1, fun hn => by
    obtain ⟨b, o, hA, hlt, hH⟩ := h.2.2.1 hn
    exact ⟨b, o, hA, Nat.lt_of_lt_of_le hlt hb.size, fun t ht => ⟨(hb.cell (p := ⟨b, o + t, none⟩) hlt).trans (hH t ht).1, (hb.frozen (p := ⟨b, o + t, none⟩) hlt).trans (hH t ht).2⟩⟩, h.2.2.2⟩
theorem HC.row {w : World} {A : Option Addr} {n c : Nat} {l : List Cg} (h : HC w A n c l) (hn : 0 < n) : ∃ b o, A = some ⟨b, o, none⟩ ∧ RowK encC 3 w b o l.toArray := by
  obtain ⟨b, o, hA, hlt, hH⟩ := h.2.2.1 hn
  exact ⟨b, o, hA, encC_len, encC_one, hH, hlt⟩

/-- What a sort of a row leaves of all other blocks. -/
theorem SWK.below {w0 W : World} {blk off B : Nat} {dk : Array Cg} (h : SWK encC 3 w0 blk off dk W) (hB : B ≤ blk) (hs : B ≤ w0.heap.size) : Below B w0 W := by
  obtain ⟨n, os, rfl⟩ := h
  unfold sortWorldK putRowK putRow mapBlock grow Sort.ahead
  refine ⟨rfl, rfl, rfl, by simp, fun j hj => ?_⟩
  have h1 : j ≠ blk := by omega
  have h2 : j < w0.heap.size := by omega
  simp [Array.getElem?_append, h2]
  rw [Array.getElem_modify, if_neg (Ne.symm h1)]

/-! ### no element -/
set_option maxHeartbeats 1000000 in
theorem rev_none (A : Option Addr) (c : Nat) (w : World) : Calls Try.prog 93 #[.slice A 0 c] w fun e w' => e = .returned (.tuple #[]) ∧ w' = w := by
  go_enter Try.func93, Try.ntmps93
  go_wp2
  go_loopg [2, 3] 0 (fun _ s2 s3 wr => s2 = .int .i64 0 ∧ s3 = .int .i64 (-1) ∧ Aside (wr = w))
  case atStart => exact ⟨rfl, rfl, (rfl : Aside _)⟩
  case round =>
    obtain ⟨rfl, rfl, hw⟩ := hrel
    go_wp2
    go_end0
    exact ⟨rfl, hw.out⟩
set_option maxHeartbeats 1000000 in
theorem ins_none (A : Option Addr) (c g : Nat) (w : World) : Calls Try.prog 105 #[.slice A 0 c, .int .i64 0, .int .i64 0, .func (.func g) #[] #[]] w fun e w' => e = .returned (.tuple #[]) ∧ w' = w := by
  go_enter Try.func105, Try.ntmps105
  go_wp2
  go_loopg [8] 0 (fun _ s8 wr => s8 = .int .i64 1 ∧ Aside (wr = w))
  case atStart => exact ⟨rfl, (rfl : Aside _)⟩
  case round =>
    obtain ⟨rfl, hw⟩ := hrel
    go_wp2
    go_end0
    exact ⟨rfl, hw.out⟩
set_option maxHeartbeats 1000000 in
theorem stable_none (A : Option Addr) (c g : Nat) (w : World) : Calls Try.prog 103 #[.slice A 0 c, .int .i64 0, .func (.func g) #[] #[]] w fun e w' => e = .returned (.tuple #[]) ∧ w' = w := by
  go_enter Try.func103, Try.ntmps103
  go_wp2
  go_loopg [7, 8] 0 (fun _ s7 s8 wr => s7 = .int .i64 0 ∧ s8 = .int .i64 20 ∧ Aside (wr = w))
  case atStart => exact ⟨rfl, rfl, (rfl : Aside _)⟩
  case round =>
    obtain ⟨rfl, rfl, hw⟩ := hrel
    go_wp2_with (go_at_call 105; refine (ins_none A c g wr).mono ?_; rintro e w' ⟨rfl, rfl⟩)
    go_loopg [6] 0 (fun _ s6 wr => s6 = .int .i64 20 ∧ Aside (wr = w))
    case atStart => exact ⟨rfl, hw⟩
    case round =>
      clear hw
      obtain ⟨rfl, hw⟩ := hrel
      go_wp2
      go_end0
      exact ⟨rfl, hw.out⟩
set_option maxHeartbeats 1000000 in
theorem sort_none (A : Option Addr) (c g : Nat) (w : World) : Calls Try.prog 94 #[.slice A 0 c, .func (.func g) #[] #[]] w fun e w' => e = .returned (.tuple #[]) ∧ w' = w := by
  go_enter Try.func94, Try.ntmps94
  go_wp2_with (go_at_call 103; refine (stable_none A c g w).mono ?_; rintro e w' ⟨rfl, rfl⟩)
  go_end0
  exact ⟨rfl, rfl⟩
set_option maxHeartbeats 1000000 in
theorem compact_none (A : Option Addr) (c g : Nat) (w : World) : Calls Try.prog 96 #[.slice A 0 c, .func (.func g) #[] #[]] w fun e w' => e = .returned (.slice A 0 c) ∧ w' = w := by
  go_enter Try.func96, Try.ntmps96
  go_wp2
  go_ret
  exact ⟨rfl, rfl⟩
end Ytbfhlleipeipbaa
end Go.Proofs
