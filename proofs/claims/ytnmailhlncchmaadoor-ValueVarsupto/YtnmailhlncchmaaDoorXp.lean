/-
  What is proved: what the package-level variables hold (Glob), and contracts of value's Print and of the document's Print. Conditions: those in each statement.
-/
import Derived.Test.YtnmailhlncchmaaDoorXv
import Derived.Test.YtnmailhlncchmaaDoorXq
import Derived.Test.YtnmailhlncchmaaDoorXd
import Derived.Lib.AppendIntMem
namespace Go.Proofs.YtnmailhlncchmaaDoor
open Go.RowKit

/-- what the package-level variables hold -/
structure Glob (w : World) : Prop where
  tab : Lib.TabIs Tryd.prog w "internal/strconv.uint64pow10" .u64 Lib.pow10Tab
  es : ∃ tp p, w.var? Tryd.prog "strconv.ErrSyntax" = some #[.iface tp p]
  er : ∃ tp p, w.var? Tryd.prog "strconv.ErrRange" = some #[.iface tp p]
  size : 6 ≤ w.heap.size
theorem var_same {w w' : World} {nm : String} {g : Nat} (hg : Tryd.prog.globalNamed nm = some g) (h : w'.heap[g]? = w.heap[g]?) : w'.var? Tryd.prog nm = w.var? Tryd.prog nm := by
  unfold World.var?
  rw [hg]
  simp only [Option.bind_some, h]
theorem Glob.keep {w w' : World} (h : Glob w) (hs : w.heap.size ≤ w'.heap.size) (hb : ∀ b, b < 6 → w'.heap[b]? = w.heap[b]?) : Glob w' := by
  refine ⟨?_, ?_, ?_, Nat.le_trans h.size hs⟩
  · have := h.tab
    unfold Lib.TabIs at this ⊢
    rw [var_same (by kernel_rfl) (hb 0 (by decide))]
    exact this
  · obtain ⟨tp, p, hp⟩ := h.es
    exact ⟨tp, p, by rw [var_same (by kernel_rfl) (hb 2 (by decide))]; exact hp⟩
  · obtain ⟨tp, p, hp⟩ := h.er
    exact ⟨tp, p, by rw [var_same (by kernel_rfl) (hb 3 (by decide))]; exact hp⟩
theorem Glob.below {w w' : World} {B : Nat} (h : Glob w) (hm : Below B w w') (hp : 6 ≤ B) : Glob w' :=
  h.keep hm.size (fun b hb => hm.block b (by omega))
theorem grow_below (w : World) (k : Nat) (os : Array Obj) : Below w.heap.size w (Sort.grow (w.drewN k) os) := by
  exact Lib.below_grow _ w (Nat.le_refl _) k os
/-- the forms of a value that Print parts -/
theorem pr_no {v : Val} (h : mayV v = false) : prV v = [] := by unfold prV; rw [h]; rfl
theorem pr_int {n : Int} {s : ByteArray} (h : mayV ⟨1, n, s⟩ = true) : prV ⟨1, n, s⟩ = Lib.itoa n := by unfold prV txV; rw [h]; rfl
theorem pr_true {s : ByteArray} (h : mayV ⟨2, 1, s⟩ = true) : prV ⟨2, 1, s⟩ = trueL := by unfold prV txV; rw [h]; rfl
theorem pr_false {n : Int} {s : ByteArray} (h : mayV ⟨2, n, s⟩ = true) (hn : n ≠ 1) : prV ⟨2, n, s⟩ = falseL := by unfold prV txV; rw [h]; simp [hn]
theorem pr_text {k n : Int} {s : ByteArray} (h : mayV ⟨k, n, s⟩ = true) (h1 : k ≠ 1) (h2 : k ≠ 2) : prV ⟨k, n, s⟩ = 34 :: (escV s.data.toList ++ [34]) := by unfold prV txV; rw [h]; simp [h1, h2]
theorem may_text {k n : Int} {s : ByteArray} (h : mayV ⟨k, n, s⟩ = true) (h1 : k ≠ 1) (h2 : k ≠ 2) : s.size ≤ 64 := by
  unfold mayV at h
  simp only at h
  rw [if_neg h1, if_neg h2] at h
  split at h
  · simp only [Bool.and_eq_true, decide_eq_true_eq] at h; exact h.2.1
  · cases h
set_option maxHeartbeats 8000000 in
set_option maxRecDepth 100000 in
theorem print_any (w : World) (k n : Int) (s : ByteArray) (hn : In64 n) (hG : Glob w) : Calls Tryd.prog 12 #[.agg #[.int .i64 k, .int .i64 n, .string s]] w fun e w' => e = .returned (.string ⟨(prV ⟨k, n, s⟩).toArray⟩) ∧ Below w.heap.size w w' := by
  have HM := Lib.hid (fun W => may_any W k n s)
  have hB0 : Below w.heap.size w (w.alloc (.cells #[.int .i64 k, .int .i64 n, .string s] 23 (0, 0))) := (Below.refl _ _).alloc (Nat.le_refl _) _
  have HB0 := Lib.hid hB0
  have HG := Lib.hid hG
  clear hG hB0
  cases hm : mayV ⟨k, n, s⟩ with
  | false =>
    rw [pr_no hm]
    rw [hm] at HM
    clear hm
    go_enter Tryd.func12, Tryd.ntmps12
    go_wp2_with (go_at_call 10; refine (HM.out _).mono ?_; rintro e w2 ⟨rfl, hb2⟩; have HB2 := Lib.hid (HB0.out.trans (hb2.mono (by simp))); clear hb2)
    go_ret
    exact ⟨rfl, HB2.out⟩
  | true =>
    rw [hm] at HM
    by_cases h1 : k = 1
    · subst h1
      rw [pr_int hm]
      clear hm
      go_enter Tryd.func12, Tryd.ntmps12
      go_wp2_with (first
        | (go_at_call 10; refine (HM.out _).mono ?_; rintro e w2 ⟨rfl, hb2⟩; have c0 := box_cell hb2 0 rfl; have c1 := box_cell hb2 1 rfl; have HB2 := Lib.hid (HB0.out.trans (hb2.mono (by simp))); clear hb2)
        | (go_at_call 30; refine (Tryd.strconv_FormatInt_10 n hn.1 hn.2 _ (HG.out.below HB2.out HG.out.size).tab).mono ?_; rintro e w3 ⟨rfl, q, os, rfl⟩; have HB3 := Lib.hid (HB2.out.trans ((grow_below w2 q os).mono HB2.out.size)); generalize Sort.grow (w2.drewN q) os = w3 at *))
      go_ret
      exact ⟨rfl, HB3.out⟩
    by_cases h2 : k = 2
    · subst h2
      by_cases hn1 : n = 1
      · subst hn1
        rw [pr_true hm]
        clear hm
        go_enter Tryd.func12, Tryd.ntmps12
        go_wp2_with (go_at_call 10; refine (HM.out _).mono ?_; rintro e w2 ⟨rfl, hb2⟩; have c0 := box_cell hb2 0 rfl; have c1 := box_cell hb2 1 rfl; have HB2 := Lib.hid (HB0.out.trans (hb2.mono (by simp))); clear hb2)
        go_ret
        exact ⟨rfl, HB2.out⟩
      · rw [pr_false hm hn1]
        clear hm
        have q1 : (n == 1) = false := beq_eq_false_iff_ne.2 hn1
        go_enter Tryd.func12, Tryd.ntmps12
        go_wp2_with (go_at_call 10; refine (HM.out _).mono ?_; rintro e w2 ⟨rfl, hb2⟩; have c0 := box_cell hb2 0 rfl; have c1 := box_cell hb2 1 rfl; have HB2 := Lib.hid (HB0.out.trans (hb2.mono (by simp))); clear hb2)
        go_ret
        exact ⟨rfl, HB2.out⟩
    · have hs := may_text hm h1 h2
      rw [pr_text hm h1 h2]
      clear hm
      have q1 : (k == 1) = false := beq_eq_false_iff_ne.2 h1
      have q2 : (k == 2) = false := beq_eq_false_iff_ne.2 h2
      have HQ := Lib.hid (fun W => quoted_any W s (by omega))
      go_enter Tryd.func12, Tryd.ntmps12
      go_wp2_with (first
        | (go_at_call 10; refine (HM.out _).mono ?_; rintro e w2 ⟨rfl, hb2⟩; have c0 := box_cell hb2 0 rfl; have c1 := box_cell hb2 1 rfl; have c2 := box_cell hb2 2 rfl; have HB2 := Lib.hid (HB0.out.trans (hb2.mono (by simp))); clear hb2)
        | (go_at_call 31; refine (HQ.out _).mono ?_; rintro e w3 ⟨rfl, hb3⟩; have HB3 := Lib.hid (HB2.out.trans (hb3.mono HB2.out.size)); clear hb3))
      go_ret
      exact ⟨rfl, HB3.out⟩
end Go.Proofs.YtnmailhlncchmaaDoor
