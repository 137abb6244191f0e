/-
  What is proved: what the document's own reader of numbers leaves, to the field. Conditions: the reader and its bytes lie in memory as they must.
-/
import Derived.Test.YtkghjgpeobacjaaMrd
namespace Go.Proofs.Ytkghjgpeobacjaa
open Go.RowKit

/-- a reader of the document's, to the field -/
def MX (w : World) (m : Nat) (A : Option Addr) (n c k : Nat) (bad : Bool) : Prop := w.heap[m]? = some (.cells #[.slice A n c, .int .i64 ((k : Nat) : Int), .bool bad] 99 (0, 0))
theorem MX.cells {w : World} {m : Nat} {A : Option Addr} {n c k : Nat} {bad : Bool} (h : MX w m A n c k bad) : w.cell? ⟨m, 0, none⟩ = some (.slice A n c) ∧ w.cell? ⟨m, 1, none⟩ = some (.int .i64 ((k : Nat) : Int)) ∧ w.cell? ⟨m, 2, none⟩ = some (.bool bad) ∧ ∀ x, w.frozen? ⟨m, x, none⟩ = false := by
  unfold MX at h
  refine ⟨?_, ?_, ?_, fun x => by simp [World.frozen?, h]⟩
  · rw [cell_of_row w m 0 _ 99 (0, 0) h]; rfl
  · rw [cell_of_row w m 1 _ 99 (0, 0) h]; rfl
  · rw [cell_of_row w m 2 _ 99 (0, 0) h]; rfl

set_option maxHeartbeats 400000 in
theorem mxleft_no (m : Nat) (w : World) (A : Option Addr) (n c k : Nat) (h : MX w m A n c k true) : Calls Try.prog 60 #[.pointer (some ⟨m, 0, none⟩)] w fun e w' => e = .returned (.int .i64 0) ∧ w' = w := by
  obtain ⟨c0, c1, c2, _⟩ := h.cells
  clear h
  go_enter Try.func60, Try.ntmps60
  go_wp2
  go_ret
  exact ⟨rfl, rfl⟩
set_option maxHeartbeats 400000 in
theorem mxleft_yes (m : Nat) (w : World) (A : Option Addr) (n c k : Nat) (h : MX w m A n c k false) (hk : k ≤ n) (hn : n ≤ 281474976710656) : Calls Try.prog 60 #[.pointer (some ⟨m, 0, none⟩)] w fun e w' => e = .returned (.int .i64 ((n : Int) - (k : Int))) ∧ ∃ q, w' = w.drewN q := by
  obtain ⟨c0, c1, c2, _⟩ := h.cells
  clear h
  go_enter Try.func60, Try.ntmps60
  go_wp2
  go_quiet (fail)
  go_wp2
  go_ret
  exact ⟨rfl, _, rfl⟩
theorem MX.drewN {w : World} {m : Nat} {A : Option Addr} {n c k : Nat} {bad : Bool} (h : MX w m A n c k bad) (q : Nat) : MX (w.drewN q) m A n c k bad := h
def MXPost (w : World) (m : Nat) (A : Option Addr) (n c k : Nat) (bad : Bool) (x : Int) (e : Ending) (w' : World) : Prop := e = .returned (.int .i64 x) ∧ MX w' m A n c k bad ∧ w.grownBy w' (some m)

set_option maxHeartbeats 400000 in
theorem mxint_bad (m : Nat) (w : World) (A : Option Addr) (n c k : Nat) (h : MX w m A n c k true) : Calls Try.prog 52 #[.pointer (some ⟨m, 0, none⟩)] w (MXPost w m A n c k true 0) := by
  have HL := Lib.hid (mxleft_no m w A n c k h)
  obtain ⟨c0, c1, c2, f⟩ := h.cells
  have f2 := f 2
  have H := Lib.hid h
  clear h f
  go_enter Try.func52, Try.ntmps52
  go_wp2_with fail
  refine HL.out.mono ?_
  rintro e w1 ⟨rfl, rfl⟩
  go_wp2_with fail
  go_ret
  exact ⟨rfl, set_block H.out _, set_grown _ _ _ _⟩
set_option maxHeartbeats 400000 in
theorem mxint_no (m : Nat) (w : World) (A : Option Addr) (n c k : Nat) (h : MX w m A n c k false) (hk : k ≤ n) (hn : n ≤ 281474976710656) (h8 : n < k + 8) : Calls Try.prog 52 #[.pointer (some ⟨m, 0, none⟩)] w (MXPost w m A n c k true 0) := by
  have HL := Lib.hid (mxleft_yes m w A n c k h hk hn)
  have H := Lib.hid h
  have h8i : (n : Int) - (k : Int) < 8 := by omega
  clear h
  go_enter Try.func52, Try.ntmps52
  go_wp2_with fail
  refine HL.out.mono ?_
  rintro e w1 ⟨rfl, q, rfl⟩
  have H1 := Lib.hid (H.out.drewN q)
  obtain ⟨c0, c1, c2, f⟩ := H1.out.cells
  have f2 := f 2
  have HG := Lib.hid (drewN_grown w q (some m))
  clear f H
  generalize w.drewN q = w2 at *
  go_wp2_with fail
  go_ret
  exact ⟨rfl, set_block H1.out _, grown_trans HG.out (set_grown _ _ _ _)⟩
set_option maxHeartbeats 800000 in
theorem mxint_yes (m : Nat) (w : World) (A : Option Addr) (n c k : Nat) (L : List UInt8) (h : MX w m A n c k false) (hh : Hold w A n c L) (hn : n ≤ 281474976710656) (h8 : k + 8 ≤ n) : Calls Try.prog 52 #[.pointer (some ⟨m, 0, none⟩)] w (MXPost w m A n c (k + 8) false (rd ((L.drop k).take 8))) := by
  have HL := Lib.hid (mxleft_yes m w A n c k h (by omega) hn)
  have H := Lib.hid h
  have HH0 := Lib.hid hh
  have h8i : ¬ (n : Int) - (k : Int) < 8 := by omega
  have hlen : L.length = n := hh.1
  clear h hh
  obtain ⟨l, hl⟩ : ∃ l, l = L.drop k := ⟨_, rfl⟩
  have hll : l.length = n - k := by rw [hl, List.length_drop, hlen]
  rw [← hl]
  have HD := Lib.hid hl
  clear hl
  go_enter Try.func52, Try.ntmps52
  go_wp2_with fail
  refine HL.out.mono ?_
  rintro e w1 ⟨rfl, q0, rfl⟩
  have H1 := Lib.hid (H.out.drewN q0)
  have HH := Lib.hid (HH0.out.drewN q0)
  obtain ⟨c0, c1, c2, f⟩ := H1.out.cells
  have f1 := f 1
  have HG := Lib.hid (drewN_grown w q0 (some m))
  clear f H HH0
  generalize w.drewN q0 = w1 at *
  go_wp2_with fail
  go_loopw [3, 4] (fun u i wr => ∃ j q : Nat, j ≤ 8 ∧ wr = w1.drewN q ∧ i = .int .i64 j ∧ u = .int .u64 (num (l.take j))) (fun _ i _ => 8 - (intOf i).toNat)
  case atStart => exact ⟨0, 0, Nat.zero_le _, rfl, rfl, rfl⟩
  case round =>
    obtain ⟨j, q, hj, rfl, rfl, rfl⟩ := hrel
    by_cases hlt : j < 8
    · obtain ⟨b, off, hkl, rfl, hc⟩ := HH.out.at (k := k + j) (by omega)
      have hlk : j < l.length := by omega
      have hlj : L[k + j] = l[j] := by
        have := HD.out
        subst this
        simp
      rw [hlj] at hc
      have hs := Lib.hid (num_take l j hlk)
      have hu := num_take_lt l j (by omega)
      have hcb := (l[j]).toNat_lt
      generalize num (l.take j) = u at *
      generalize (l[j]).toNat = x at *
      have hw1 : IntKind.i64.wrap ((k : Int) + (j : Int)) = (k : Int) + (j : Int) := IntWalk.i64_in _ (by omega)
      have hw2 : (0 : Int) ≤ (k : Int) + (j : Int) := by omega
      have hw3 : (k : Int) + (j : Int) < (n : Int) := by omega
      have hw4 : ((k : Int) + (j : Int)).toNat = k + j := by omega
      clear hlj
      go_wp2
      go_quiet (fail)
      go_wp2
      go_roundw
      case rel => exact ⟨j + 1, q + nq, by omega, rfl, by go_num, by rw [hs.out]; go_num⟩
      case measure => simp [intOf]; omega
    · obtain rfl : j = 8 := by omega
      have fin : MX ((w1.drewN q).setCell ⟨m, 1, none⟩ (.int .i64 ((k : Int) + 8))) m A n c (k + 8) false := by
        have := set_block (w := w1.drewN q) (i := 1) H1.out (.int .i64 ((k : Int) + 8))
        exact this
      have FIN := Lib.hid fin
      have GR := Lib.hid (grown_trans (grown_trans HG.out (drewN_grown w1 q _)) (set_grown (w1.drewN q) m 1 (.int .i64 ((k : Int) + 8))))
      clear fin
      go_wp2
      go_ret
      exact ⟨rfl, FIN.out, GR.out⟩
end Go.Proofs.Ytkghjgpeobacjaa
