/-
  What is proved: what the document's own reader answers and leaves, told by the bytes that are left, or that something could not be read: the same as the program's.
-/
import Derived.Test.YtkghjgpeobacjaaRdr
import Derived.Deep.QuietTactic
import Derived.BigQuiet
namespace Go.Proofs.Ytkghjgpeobacjaa
open Go.RowKit

/-- a reader of the document's lies at block m -/
def MRdr (w : World) (m : Nat) (s : St) : Prop :=
  ∃ A n c k L, w.heap[m]? = some (.cells #[.slice A n c, .int .i64 ((k : Nat) : Int), .bool s.isNone] 99 (0, 0)) ∧ Hold w A n c L ∧ k ≤ n ∧ n ≤ 281474976710656 ∧ ∀ l, s = some l → L.drop k = l
def MLeft (w : World) (m : Nat) (v : Value) (s : St) (e : Ending) (w' : World) : Prop := e = .returned v ∧ MRdr w' m s ∧ w.grownBy w' (some m)

theorem mrdr_cs (A : Option Addr) (n c k : Nat) (x : Bool) : ∀ v ∈ (#[Value.slice A n c, .int .i64 (k : Int), .bool x] : Array Value).toList, ∀ y, v ≠ .int .u8 y := by
  intro v hv y
  simp at hv
  rcases hv with rfl | rfl | rfl <;> simp
theorem drewN_grown (w : World) (n : Nat) (r : Option Nat) : w.grownBy (w.drewN n) r := ⟨rfl, rfl, rfl, Nat.le_refl _, fun _ _ _ => rfl⟩
theorem MRdr.drewN {w : World} {m : Nat} {s : St} (h : MRdr w m s) (n : Nat) : MRdr (w.drewN n) m s := h

set_option maxHeartbeats 400000 in
theorem mleft_any (m : Nat) (s : St) (w : World) (h : MRdr w m s) :
    Calls Try.prog 60 #[.pointer (some ⟨m, 0, none⟩)] w (MLeft w m (.int .i64 ((left s).length : Int)) s) := by
  have h' := Lib.hid h
  obtain ⟨A, n, c, k, L, hg, hh, hk, hn, hs⟩ := h
  have c0 := cell_of_row w m 0 _ 99 (0, 0) hg
  have c1 := cell_of_row w m 1 _ 99 (0, 0) hg
  have c2 := cell_of_row w m 2 _ 99 (0, 0) hg
  simp at c0 c1 c2
  have hl := hh.1
  cases s with
  | none =>
    simp only [Option.isNone_none] at c2
    clear hg hh hs
    go_enter Try.func60, Try.ntmps60
    go_wp2
    go_ret
    exact ⟨rfl, h'.out, World.grownBy.refl _ _⟩
  | some l =>
    have hL : l.length = n - k := by rw [← hs l rfl, List.length_drop, hl]
    have HL := Lib.hid hL
    simp only [Option.isNone_some] at c2
    clear hg hh hs hL hl
    go_enter Try.func60, Try.ntmps60
    go_wp2
    go_quiet (fail)
    go_wp2
    go_ret
    refine ⟨?_, h'.out.drewN _, drewN_grown _ _ _⟩
    have e : (n : Int) - (k : Int) = (l.length : Int) := by rw [HL.out]; omega
    show Ending.returned (.int .i64 ((n : Int) - (k : Int))) = _
    rw [e]
    rfl

set_option maxHeartbeats 400000 in
theorem mint_yes (m : Nat) (s : St) (w : World) (h : MRdr w m s) (h8 : 8 ≤ (left s).length) :
    Calls Try.prog 52 #[.pointer (some ⟨m, 0, none⟩)] w (MLeft w m (.int .i64 (rd ((left s).take 8))) (stTake 8 s)) := by
  have HL := Lib.hid (mleft_any m s w h)
  cases s with
  | none => simp [left] at h8
  | some l =>
    have hll : (left (some l)).length = l.length := rfl
    rw [hll] at HL h8
    have h8i : (8 : Int) ≤ (l.length : Int) := by omega
    clear h
    go_enter Try.func52, Try.ntmps52
    go_wp2_with (go_at_call 60; refine HL.out.mono ?_; rintro e w1 ⟨rfl, ⟨A, n, c, k, L, hg, hh, hk, hn, hs⟩, hgr⟩)
    have hL : L.drop k = l := hs l rfl
    have hlen : L.length = n := hh.1
    have hll2 : l.length = n - k := by rw [← hL, List.length_drop, hlen]
    have hkn : k + 8 ≤ n := by omega
    have c0 := cell_of_row w1 m 0 _ 99 (0, 0) hg
    have c1 := cell_of_row w1 m 1 _ 99 (0, 0) hg
    have f1 : w1.frozen? ⟨m, 1, none⟩ = false := by simp [World.frozen?, hg]
    simp at c0 c1
    have HG := Lib.hid hg
    have HH := Lib.hid hh
    have HD := Lib.hid hL
    have HN := Lib.hid hlen
    clear hg hh hL hlen hs hll2
    go_loopw [3, 4] (fun u i wr => ∃ j q : Nat, j ≤ 8 ∧ wr = w1.drewN q ∧ i = .int .i64 j ∧ u = .int .u64 (num (l.take j))) (fun _ i _ => 8 - (intOf i).toNat)
    case atStart => exact ⟨0, 0, Nat.zero_le _, rfl, rfl, rfl⟩
    case round =>
      obtain ⟨j, q, hj, rfl, rfl, rfl⟩ := hrel
      by_cases hlt : j < 8
      · obtain ⟨b, off, hkl, rfl, hc⟩ := HH.out.at (k := k + j) (by omega)
        have hlk : j < l.length := by omega
        have hlj : L[k + j] = l[j] := by
          have := HD.out
          subst this
          simp
        rw [hlj] at hc
        have hs := Lib.hid (num_take l j hlk)
        have hu := num_take_lt l j (by omega)
        have hcb := (l[j]).toNat_lt
        generalize num (l.take j) = u at *
        generalize (l[j]).toNat = x at *
        have hw1 : IntKind.i64.wrap ((k : Int) + (j : Int)) = (k : Int) + (j : Int) := IntWalk.i64_in _ (by omega)
        have hw2 : (0 : Int) ≤ (k : Int) + (j : Int) := by omega
        have hw3 : (k : Int) + (j : Int) < (n : Int) := by omega
        have hw4 : ((k : Int) + (j : Int)).toNat = k + j := by omega
        clear hlj
        go_wp2
        go_quiet (fail)
        go_wp2
        go_roundw
        case rel => exact ⟨j + 1, q + nq, by omega, rfl, by go_num, by rw [hs.out]; go_num⟩
        case measure => simp [intOf]; omega
      · obtain rfl : j = 8 := by omega
        have fin : MRdr ((w1.drewN q).setCell ⟨m, 1, none⟩ (.int .i64 ((k : Int) + 8))) m (stTake 8 (some l)) := by
          have hgr1 := set_grown (w1.drewN q) m 1 (.int .i64 ((k : Int) + 8))
          have hap := HH.out.apart HG.out (mrdr_cs _ _ _ _ _)
          refine ⟨A, n, c, k + 8, L, ?_, (HH.out.drewN q).grown hgr1 hap, hkn, hn, ?_⟩
          · have := set_block (w := w1.drewN q) (i := 1) HG.out (.int .i64 ((k : Int) + 8))
            rw [this]
            rfl
          · intro l' hl'
            simp only [stTake, Option.map_some, Option.some.injEq] at hl'
            rw [← hl', ← HD.out, List.drop_drop]
        have FIN := Lib.hid fin
        have GR := Lib.hid (grown_trans (grown_trans hgr (drewN_grown w1 q _)) (set_grown (w1.drewN q) m 1 (.int .i64 ((k : Int) + 8))))
        clear fin
        go_wp2
        go_ret
        exact ⟨rfl, FIN.out, GR.out⟩

set_option maxHeartbeats 400000 in
theorem mint_no (m : Nat) (s : St) (w : World) (h : MRdr w m s) (h8 : (left s).length < 8) :
    Calls Try.prog 52 #[.pointer (some ⟨m, 0, none⟩)] w (MLeft w m (.int .i64 0) none) := by
  have HL := Lib.hid (mleft_any m s w h)
  have h8i : ((left s).length : Int) < 8 := by omega
  clear h
  generalize (left s).length = t at *
  go_enter Try.func52, Try.ntmps52
  go_wp2_with (go_at_call 60; refine HL.out.mono ?_; rintro e w1 ⟨rfl, ⟨A, n, c, k, L, hg, hh, hk, hn, hs⟩, hgr⟩; have c2 := (cell_of_row w1 m 2 _ 99 (0, 0) hg); have f2 : w1.frozen? ⟨m, 2, none⟩ = false := (by simp [World.frozen?, hg]); simp at c2; have HG := Lib.hid hg; have HH := Lib.hid hh; clear hg hh hs)
  go_ret
  have hgr1 := set_grown w1 m 2 (.bool true)
  refine ⟨rfl, ⟨A, n, c, k, L, ?_, HH.out.grown hgr1 (HH.out.apart HG.out (mrdr_cs _ _ _ _ _)), hk, hn, (fun l hl => by cases hl)⟩, grown_trans hgr hgr1⟩
  exact set_block HG.out _

theorem mint_any (m : Nat) (s : St) (w : World) (h : MRdr w m s) :
    Calls Try.prog 52 #[.pointer (some ⟨m, 0, none⟩)] w (MLeft w m (.int .i64 (stInt s).1) (stInt s).2) := by
  unfold stInt
  split
  · exact mint_yes m s w h ‹_›
  · exact mint_no m s w h (by omega)

end Go.Proofs.Ytkghjgpeobacjaa
