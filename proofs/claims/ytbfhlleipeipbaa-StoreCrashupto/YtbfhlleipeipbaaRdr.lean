/-
  What is proved: what the reader's methods answer and leave, told by the bytes that are left, or that something could not be read.
-/
import Derived.Test.YtbfhlleipeipbaaRefs
namespace Go.Proofs.Ytbfhlleipeipbaa
open Go.RowKit

/-- what a reader has: the bytes that are left; none: it is bad -/
abbrev St := Option (List UInt8)
def left (s : St) : List UInt8 := s.getD []
def stTake (k : Nat) (s : St) : St := s.map (·.drop k)
def stInt (s : St) : Int × St := if 8 ≤ (left s).length then (rd ((left s).take 8), stTake 8 s) else (0, none)
/-- a reader of the program's lies at block g -/
def Rdr (w : World) (g : Nat) (s : St) : Prop :=
  ∃ A n c, w.heap[g]? = some (.cells #[.slice A n c, .bool s.isNone] 142 (0, 0)) ∧ Hold w A n c (left s) ∧ n ≤ 281474976710656

section
variable {w w' : World} {g : Nat}
theorem Hold.grown {A : Option Addr} {n c : Nat} {l : List UInt8} (h : Hold w A n c l) (hg : w.grownBy w' (some g)) (hne : ∀ b off, 0 < n → A = some ⟨b, off, none⟩ → b ≠ g) : Hold w' A n c l := by
  refine ⟨h.1, h.2.1, h.2.2.1, fun hn => ?_⟩
  obtain ⟨b, off, e, hc⟩ := h.2.2.2 hn
  refine ⟨b, off, e, fun j hj => ?_⟩
  exact hg.cell (hc j hj) (fun e' => hne b off hn e (by injection e'))
/-- bytes never lie in a block of another kind -/
theorem Hold.apart {A : Option Addr} {n c : Nat} {l : List UInt8} (h : Hold w A n c l) {cs : Array Value} {t : TypeId} {fr : Nat × Nat} (hg : w.heap[g]? = some (.cells cs t fr)) (hcs : ∀ v ∈ cs.toList, ∀ x, v ≠ .int .u8 x) :
    ∀ b off, 0 < n → A = some ⟨b, off, none⟩ → b ≠ g := by
  intro b off hn e hbg
  obtain ⟨b', off', e', hc⟩ := h.2.2.2 hn
  rw [e] at e'
  injection e' with e'
  injection e' with h1 h2
  subst h1 h2 hbg
  have := hc 0 (by rw [h.1]; exact hn)
  rw [cell_of_row w b _ cs t fr hg] at this
  exact hcs _ (by rw [Array.getElem?_eq_some_iff] at this; obtain ⟨hlt, h⟩ := this; rw [← h]; simp) _ rfl
theorem set_block {w : World} {g i : Nat} {cs : Array Value} {t : TypeId} (hg : w.heap[g]? = some (.cells cs t (0, 0))) (u : Value) : (w.setCell ⟨g, i, none⟩ u).heap[g]? = some (.cells (cs.setIfInBounds i u) t (0, 0)) := by
  simp [World.setCell, Array.getElem?_modify, hg]
theorem set_grown (w : World) (g i : Nat) (u : Value) : w.grownBy (w.setCell ⟨g, i, none⟩ u) (some g) :=
  ⟨rfl, rfl, rfl, by simp [World.setCell], fun k _ hk => Below.heap_setCell _ _ _ _ (fun e => hk (by rw [e]))⟩
theorem rdr_cs (A : Option Addr) (n c : Nat) (x : Bool) : ∀ v ∈ (#[Value.slice A n c, .bool x] : Array Value).toList, ∀ y, v ≠ .int .u8 y := by
  intro v hv y
  simp at hv
  rcases hv with rfl | rfl <;> simp
end

/-- what a method leaves: its answer, what the reader has, and that nothing else has turned -/
def Left1 (w : World) (g : Nat) (v : Value) (s : St) (e : Ending) (w' : World) : Prop := e = .returned v ∧ Rdr w' g s ∧ w.grownBy w' (some g)
def Taken (w : World) (g k : Nat) (l : List UInt8) (s : St) (e : Ending) (w' : World) : Prop :=
  ∃ A c, e = .returned (.tuple #[.slice A k c, .bool true]) ∧ Hold w' A k c l ∧ Rdr w' g s ∧ w.grownBy w' (some g)

set_option maxHeartbeats 400000 in
theorem spoil_any (g : Nat) (A : Option Addr) (n c : Nat) (bad : Bool) (w : World) (hg : w.heap[g]? = some (.cells #[.slice A n c, .bool bad] 142 (0, 0))) :
    Calls Try.prog 92 #[.pointer (some ⟨g, 0, none⟩)] w (Left1 w g (.tuple #[]) none) := by
  have c0 := cell_of_row w g 0 _ 142 (0, 0) hg
  have c1 := cell_of_row w g 1 _ 142 (0, 0) hg
  have f0 : w.frozen? ⟨g, 0, none⟩ = false := by simp [World.frozen?, hg]
  have f1 : w.frozen? ⟨g, 1, none⟩ = false := by simp [World.frozen?, hg]
  simp at c0 c1
  have HG := Lib.hid hg
  clear hg
  go_enter Try.func92, Try.ntmps92
  go_wp2
  go_end0
  refine ⟨rfl, ⟨none, 0, 0, ?_, Hold.nil _, by omega⟩, grown_trans (set_grown _ _ _ _) (set_grown _ _ _ _)⟩
  exact set_block (set_block HG.out _) _

set_option maxHeartbeats 400000 in
theorem take_yes (g k : Nat) (s : St) (w : World) (h : Rdr w g s) (hk : k ≤ (left s).length) :
    Calls Try.prog 91 #[.pointer (some ⟨g, 0, none⟩), .int .i64 k] w (Taken w g k ((left s).take k) (stTake k s)) := by
  obtain ⟨A, n, c, hg, hh, hn⟩ := h
  have hl := hh.1
  have hnc := hh.2.1
  have c0 := cell_of_row w g 0 _ 142 (0, 0) hg
  have f0 : w.frozen? ⟨g, 0, none⟩ = false := by simp [World.frozen?, hg]
  simp at c0
  have hkn : k ≤ n := by omega
  have fin : ∀ A', (c ≠ k → A' = A.map (·.add k)) → (c = k → A' = A) → Hold (w.setCell ⟨g, 0, none⟩ (.slice A' (n - k) (c - k))) A k c ((left s).take k) ∧ Rdr (w.setCell ⟨g, 0, none⟩ (.slice A' (n - k) (c - k))) g (stTake k s) ∧ w.grownBy (w.setCell ⟨g, 0, none⟩ (.slice A' (n - k) (c - k))) (some g) := by
    intro A' h1 h2
    have hgr := set_grown w g 0 (.slice A' (n - k) (c - k))
    have ha := hh.apart hg (rdr_cs _ _ _ _)
    have hw := hh.grown hgr ha
    refine ⟨hw.take hkn, ⟨A', n - k, c - k, ?_, ?_, by omega⟩, hgr⟩
    · have := set_block (i := 0) hg (.slice A' (n - k) (c - k))
      rw [this]
      cases s <;> rfl
    · have := hw.drop hkn h1 h2
      cases s <;> simpa [left, stTake] using this
  have HF := Lib.hid fin
  clear fin hg hh hl hk
  by_cases hck : c = k
  · subst hck
    go_enter Try.func91, Try.ntmps91
    go_wp2
    go_ret2
    obtain ⟨r1, r2, r3⟩ := HF.out A (fun h => absurd rfl h) (fun _ => rfl)
    rw [Nat.sub_self, show n - c = 0 by omega] at r1 r2 r3
    exact ⟨A, c, rfl, r1, r2, r3⟩
  · go_enter Try.func91, Try.ntmps91
    go_wp2
    go_ret2
    obtain ⟨r1, r2, r3⟩ := HF.out (A.map (·.add k)) (fun _ => rfl) (fun h => absurd h hck)
    exact ⟨A, c, rfl, r1, r2, r3⟩

set_option maxHeartbeats 400000 in
theorem take_no (g k : Nat) (s : St) (w : World) (h : Rdr w g s) (hk : (left s).length < k) :
    Calls Try.prog 91 #[.pointer (some ⟨g, 0, none⟩), .int .i64 k] w (Left1 w g (.tuple #[.slice none 0 0, .bool false]) none) := by
  obtain ⟨A, n, c, hg, hh, hn⟩ := h
  have hl := hh.1
  have c0 := cell_of_row w g 0 _ 142 (0, 0) hg
  simp at c0
  have hkn : n < k := by omega
  have HS := Lib.hid (spoil_any g A n c _ w hg)
  clear hg hh hl hk
  go_enter Try.func91, Try.ntmps91
  go_wp2_with (go_at_call 92; refine HS.out.mono ?_; rintro e w1 ⟨rfl, hr, hgr⟩)
  go_ret2
  exact ⟨rfl, hr, hgr⟩

theorem num_take (l : List UInt8) (k : Nat) (h : k < l.length) : num (l.take (k + 1)) = num (l.take k) * 256 + l[k].toNat := by
  rw [List.take_succ_eq_append_getElem h, num_snoc]
theorem num_take_lt (l : List UInt8) (k : Nat) (h : k ≤ 7) : num (l.take k) < 72057594037927936 := by
  have h1 := num_lt (l.take k)
  have h2 : (l.take k).length ≤ 7 := by simp; omega
  have h3 : 256 ^ (l.take k).length ≤ 256 ^ 7 := Nat.pow_le_pow_right (by omega) h2
  omega

theorem or_byte (u x : Nat) (hu : u < 72057594037927936) (hx : x < 256) : bits .or .u64 ((u : Int) * 256) (x : Int) = ((u * 256 + x : Nat) : Int) := by
  have h1 : ((u : Int) * 256) = ((u * 256 : Nat) : Int) := by omega
  rw [h1, u64_or_nat _ _ (by omega) (by omega)]
  congr 1
  have := Nat.shiftLeft_add_eq_or_of_lt (i := 8) (b := x) (by omega) u
  rw [Nat.shiftLeft_eq] at this
  simpa using this.symm

set_option maxHeartbeats 400000 in
theorem int_yes (g : Nat) (s : St) (w : World) (h : Rdr w g s) (hk : 8 ≤ (left s).length) :
    Calls Try.prog 87 #[.pointer (some ⟨g, 0, none⟩)] w (Left1 w g (.int .i64 (rd ((left s).take 8))) (stTake 8 s)) := by
  have ht : Calls Try.prog 91 #[.pointer (some ⟨g, 0, none⟩), .int .i64 8] w (Taken w g 8 ((left s).take 8) (stTake 8 s)) := take_yes g 8 s w h hk
  have hl8 : ((left s).take 8).length = 8 := by simp; omega
  generalize (left s).take 8 = l at *
  have HT := Lib.hid ht
  have HL := Lib.hid hl8
  clear ht hk h hl8
  go_enter Try.func87, Try.ntmps87
  go_wp2_with (go_at_call 91; refine HT.out.mono ?_; rintro e w1 ⟨A, c, rfl, hh, hr, hgr⟩; have HH := Lib.hid hh; clear hh)
  go_loop [5, 17] (fun u i => ∃ k : Nat, k ≤ 8 ∧ i = .int .i64 k ∧ u = .int .u64 (num (l.take k))) (fun _ i => 8 - (intOf i).toNat)
  case atStart => exact ⟨0, Nat.zero_le _, rfl, rfl⟩
  case round =>
    obtain ⟨k, hk, rfl, rfl⟩ := hrel
    by_cases hlt : k < 8
    · obtain ⟨b, off, hkl, rfl, hc⟩ := HH.out.at hlt
      have hs := Lib.hid (num_take l k hkl)
      have hu := num_take_lt l k (by omega)
      have hcb := (l[k]).toNat_lt
      generalize num (l.take k) = u at *
      generalize (l[k]).toNat = x at *
      go_wp2
      rw [or_byte u x hu hcb]
      go_round
      case rel => exact ⟨k + 1, by omega, by go_num, by rw [hs.out]⟩
      case measure => simp [intOf]; omega
    · obtain rfl : k = 8 := by omega
      have ht : l.take 8 = l := List.take_of_length_le (by rw [HL.out]; omega)
      rw [ht]
      go_wp2
      go_ret
      exact ⟨rfl, hr, hgr⟩

set_option maxHeartbeats 400000 in
theorem int_no (g : Nat) (s : St) (w : World) (h : Rdr w g s) (hk : (left s).length < 8) :
    Calls Try.prog 87 #[.pointer (some ⟨g, 0, none⟩)] w (Left1 w g (.int .i64 0) none) := by
  have ht : Calls Try.prog 91 #[.pointer (some ⟨g, 0, none⟩), .int .i64 8] w (Left1 w g (.tuple #[.slice none 0 0, .bool false]) none) := take_no g 8 s w h hk
  have HT := Lib.hid ht
  clear ht hk h
  go_enter Try.func87, Try.ntmps87
  go_wp2_with (go_at_call 91; refine HT.out.mono ?_; rintro e w1 ⟨rfl, hr, hgr⟩)
  go_ret
  exact ⟨rfl, hr, hgr⟩

theorem int_any (g : Nat) (s : St) (w : World) (h : Rdr w g s) :
    Calls Try.prog 87 #[.pointer (some ⟨g, 0, none⟩)] w (Left1 w g (.int .i64 (stInt s).1) (stInt s).2) := by
  unfold stInt
  split
  · exact int_yes g s w h ‹_›
  · exact int_no g s w h (by omega)

theorem stInt_bounds (s : St) : -9223372036854775808 ≤ (stInt s).1 ∧ (stInt s).1 ≤ 9223372036854775807 := by
  unfold stInt
  split
  · exact rd_bounds _
  · exact ⟨by omega, by omega⟩

end Go.Proofs.Ytbfhlleipeipbaa
