/-
  What is proved: contracts of utf's size, Char, Letter and NameRune; each turns nothing. Conditions: those in each statement.
-/
import Derived.Test.YtnmailhlncchmaaDoorUm
import Derived.Test.YtnmailhlncchmaaDoorRows
import Derived.Laws.BitsAllLaws
import Derived.LoopN
namespace Go.Proofs.YtnmailhlncchmaaDoor
open Go.RowKit

theorem sz_is {r : Int} {n : Nat} (h : isR r) (hn : n = (if r < 128 then 1 else if r < 2048 then 2 else if r < 65536 then 3 else 4)) : sz r = n := by
  unfold sz
  rw [if_pos h, hn]
theorem sz1 {r : Int} (h0 : 0 ≤ r) (h : r < 128) : sz r = 1 := sz_is (by unfold isR; omega) (by rw [if_pos h])
theorem sz2 {r : Int} (h0 : 128 ≤ r) (h : r < 2048) : sz r = 2 := sz_is (by unfold isR; omega) (by rw [if_neg (by omega), if_pos h])
theorem sz3 {r : Int} (hr : isR r) (h0 : 2048 ≤ r) (h : r < 65536) : sz r = 3 := sz_is hr (by rw [if_neg (by omega), if_neg (by omega), if_pos h])
theorem sz4 {r : Int} (hr : isR r) (h0 : 65536 ≤ r) : sz r = 4 := sz_is hr (by rw [if_neg (by omega), if_neg (by omega), if_neg (by omega)])
theorem isR_iff {r : Int} : isR r ↔ (0 ≤ r ∧ r ≤ 1114111 ∧ (r < 55296 ∨ 57343 < r)) := Iff.rfl
set_option maxHeartbeats 2000000 in
theorem size_any (r : Int) (w : World) : Calls Tryd.prog 54 #[.int .i32 r] w fun e w' => e = .returned (.int .i64 (sz r : Int)) ∧ w = w' := by
  by_cases h1 : r < 0
  · rw [show sz r = 0 from sz_not (by rw [isR_iff]; omega)]
    go_enter Tryd.func54, Tryd.ntmps54
    go_wp2
    first
    | done
    | (go_ret; exact ⟨rfl, rfl⟩)
    | (go_ret; refine ⟨?_, rfl⟩; simp; intros; omega)
  · by_cases h2 : r > 1114111
    · rw [show sz r = 0 from sz_not (by rw [isR_iff]; omega)]
      go_enter Tryd.func54, Tryd.ntmps54
      go_wp2
      first
      | done
      | (go_ret; exact ⟨rfl, rfl⟩)
      | (go_ret; refine ⟨?_, rfl⟩; simp; intros; omega)
    · by_cases h3 : r ≥ 55296
      · by_cases h4 : r ≤ 57343
        · rw [show sz r = 0 from sz_not (by rw [isR_iff]; omega)]
          go_enter Tryd.func54, Tryd.ntmps54
          go_wp2
          first
          | done
          | (go_ret; exact ⟨rfl, rfl⟩)
          | (go_ret; refine ⟨?_, rfl⟩; simp; intros; omega)
        · by_cases h5 : r < 65536
          · rw [show sz r = 3 from sz3 (by rw [isR_iff]; omega) (by omega) h5]
            have h6 : ¬ r < 128 := by omega
            have h7 : ¬ r < 2048 := by omega
            go_enter Tryd.func54, Tryd.ntmps54
            go_wp2
            first
            | done
            | (go_ret; exact ⟨rfl, rfl⟩)
            | (go_ret; refine ⟨?_, rfl⟩; simp; intros; omega)
          · rw [show sz r = 4 from sz4 (by rw [isR_iff]; omega) (by omega)]
            have h6 : ¬ r < 128 := by omega
            have h7 : ¬ r < 2048 := by omega
            go_enter Tryd.func54, Tryd.ntmps54
            go_wp2
            first
            | done
            | (go_ret; exact ⟨rfl, rfl⟩)
            | (go_ret; refine ⟨?_, rfl⟩; simp; intros; omega)
      · by_cases h6 : r < 128
        · rw [show sz r = 1 from sz1 (by omega) h6]
          go_enter Tryd.func54, Tryd.ntmps54
          go_wp2
          first
          | done
          | (go_ret; exact ⟨rfl, rfl⟩)
          | (go_ret; refine ⟨?_, rfl⟩; simp; intros; omega)
        · by_cases h7 : r < 2048
          · rw [show sz r = 2 from sz2 (by omega) h7]
            go_enter Tryd.func54, Tryd.ntmps54
            go_wp2
            first
            | done
            | (go_ret; exact ⟨rfl, rfl⟩)
            | (go_ret; refine ⟨?_, rfl⟩; simp; intros; omega)
          · rw [show sz r = 3 from sz3 (by rw [isR_iff]; omega) (by omega) (by omega)]
            have h8 : r < 65536 := by omega
            go_enter Tryd.func54, Tryd.ntmps54
            go_wp2
            first
            | done
            | (go_ret; exact ⟨rfl, rfl⟩)
            | (go_ret; refine ⟨?_, rfl⟩; simp; intros; omega)

/-- a character -/
def isC (r : Int) : Prop := isR r ∧ r ≠ 65534 ∧ r ≠ 65535 ∧ (32 ≤ r ∨ r = 9 ∨ r = 10 ∨ r = 13)
instance (r : Int) : Decidable (isC r) := by unfold isC; exact inferInstance
theorem isC_iff {r : Int} : isC r ↔ ((0 ≤ r ∧ r ≤ 1114111 ∧ (r < 55296 ∨ 57343 < r)) ∧ r ≠ 65534 ∧ r ≠ 65535 ∧ (32 ≤ r ∨ r = 9 ∨ r = 10 ∨ r = 13)) := Iff.rfl
/-- a letter -/
def isL (r : Int) : Prop := (65 ≤ r ∧ r ≤ 90) ∨ (97 ≤ r ∧ r ≤ 122) ∨ r = 95 ∨ (128 ≤ r ∧ isC r)
instance (r : Int) : Decidable (isL r) := by unfold isL; exact inferInstance
theorem isL_iff {r : Int} : isL r ↔ ((65 ≤ r ∧ r ≤ 90) ∨ (97 ≤ r ∧ r ≤ 122) ∨ r = 95 ∨ (128 ≤ r ∧ isC r)) := Iff.rfl
/-- a name's rune -/
def isN (r : Int) : Prop := isL r ∨ (48 ≤ r ∧ r ≤ 57) ∨ r = 45 ∨ r = 46
instance (r : Int) : Decidable (isN r) := by unfold isN; exact inferInstance
theorem isN_iff {r : Int} : isN r ↔ (isL r ∨ (48 ≤ r ∧ r ≤ 57) ∨ r = 45 ∨ r = 46) := Iff.rfl
set_option maxHeartbeats 2000000 in
theorem char_is (r : Int) (b : Bool) (hb : b = decide (isC r)) (w : World) : Calls Tryd.prog 42 #[.int .i32 r] w fun e w' => e = .returned (.bool b) ∧ w = w' := by
  by_cases h1 : r = 9
  · rw [show b = true from hb.trans (decide_eq_true (by rw [isC_iff]; omega))]
    go_enter Tryd.func42, Tryd.ntmps42
    go_wp2
    first
    | done
    | (go_ret; exact ⟨rfl, rfl⟩)
    | (go_ret; refine ⟨?_, rfl⟩; simp; intros; omega)
  · have h1b : (r == 9) = false := beq_eq_false_iff_ne.2 h1
    by_cases h2 : r = 10
    · rw [show b = true from hb.trans (decide_eq_true (by rw [isC_iff]; omega))]
      go_enter Tryd.func42, Tryd.ntmps42
      go_wp2
      first
      | done
      | (go_ret; exact ⟨rfl, rfl⟩)
      | (go_ret; refine ⟨?_, rfl⟩; simp; intros; omega)
    · have h2b : (r == 10) = false := beq_eq_false_iff_ne.2 h2
      by_cases h3 : r = 13
      · rw [show b = true from hb.trans (decide_eq_true (by rw [isC_iff]; omega))]
        go_enter Tryd.func42, Tryd.ntmps42
        go_wp2
        first
        | done
        | (go_ret; exact ⟨rfl, rfl⟩)
        | (go_ret; refine ⟨?_, rfl⟩; simp; intros; omega)
      · have h3b : (r == 13) = false := beq_eq_false_iff_ne.2 h3
        by_cases h4 : r = 65534
        · rw [show b = false from hb.trans (decide_eq_false (by rw [isC_iff]; omega))]
          go_enter Tryd.func42, Tryd.ntmps42
          go_wp2
          first
          | done
          | (go_ret; exact ⟨rfl, rfl⟩)
          | (go_ret; refine ⟨?_, rfl⟩; simp; intros; omega)
        · have h4b : (r == 65534) = false := beq_eq_false_iff_ne.2 h4
          by_cases h5 : r = 65535
          · rw [show b = false from hb.trans (decide_eq_false (by rw [isC_iff]; omega))]
            go_enter Tryd.func42, Tryd.ntmps42
            go_wp2
            first
            | done
            | (go_ret; exact ⟨rfl, rfl⟩)
            | (go_ret; refine ⟨?_, rfl⟩; simp; intros; omega)
          · have h5b : (r == 65535) = false := beq_eq_false_iff_ne.2 h5
            by_cases h6 : r ≥ 32
            · by_cases h7 : isR r
              · rw [isR_iff] at h7
                rw [show b = true from hb.trans (decide_eq_true (by rw [isC_iff]; omega))]
                have hp : 0 < sz r := by have := sz_pos (r := r) (by rw [isR_iff]; omega); omega
                go_enter Tryd.func42, Tryd.ntmps42
                go_wp2_with (go_at_call 54; refine (size_any r _).mono ?_; rintro e w' ⟨rfl, rfl⟩)
                first
                | done
                | (go_ret; exact ⟨rfl, rfl⟩)
                | (go_ret; refine ⟨?_, rfl⟩; simp; intros; omega)
              · have hp : ¬ 0 < sz r := by rw [sz_not h7]; omega
                rw [isR_iff] at h7
                rw [show b = false from hb.trans (decide_eq_false (by rw [isC_iff]; omega))]
                go_enter Tryd.func42, Tryd.ntmps42
                go_wp2_with (go_at_call 54; refine (size_any r _).mono ?_; rintro e w' ⟨rfl, rfl⟩)
                first
                | done
                | (go_ret; exact ⟨rfl, rfl⟩)
                | (go_ret; refine ⟨?_, rfl⟩; simp; intros; omega)
            · rw [show b = false from hb.trans (decide_eq_false (by rw [isC_iff]; omega))]
              go_enter Tryd.func42, Tryd.ntmps42
              go_wp2
              first
              | done
              | (go_ret; exact ⟨rfl, rfl⟩)
              | (go_ret; refine ⟨?_, rfl⟩; simp; intros; omega)

end Go.Proofs.YtnmailhlncchmaaDoor
