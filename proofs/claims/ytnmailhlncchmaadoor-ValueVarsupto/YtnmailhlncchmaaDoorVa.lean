/-
  What is proved: contracts of the document's Rune, Char, Letter and NameRune; each turns nothing. Conditions: those in each statement.
-/
import Derived.Test.YtnmailhlncchmaaDoorUa
namespace Go.Proofs.YtnmailhlncchmaaDoor
open Go.RowKit

set_option maxHeartbeats 2000000 in
theorem rune_is (r : Int) (b : Bool) (hb : b = decide (isR r)) (w : World) : Calls Tryd.prog 56 #[.int .i32 r] w fun e w' => e = .returned (.bool b) ∧ w = w' := by
  by_cases h1 : r ≥ 0
  · by_cases h2 : r ≤ 1114111
    · by_cases h3 : r < 55296
      · rw [show b = true from hb.trans (decide_eq_true (by rw [isR_iff]; omega))]
        go_enter Tryd.func56, Tryd.ntmps56
        go_wp2
        first
        | done
        | (go_ret; exact ⟨rfl, rfl⟩)
        | (go_ret; refine ⟨?_, rfl⟩; simp; intros; omega)
      · by_cases h4 : r > 57343
        · rw [show b = true from hb.trans (decide_eq_true (by rw [isR_iff]; omega))]
          go_enter Tryd.func56, Tryd.ntmps56
          go_wp2
          first
          | done
          | (go_ret; exact ⟨rfl, rfl⟩)
          | (go_ret; refine ⟨?_, rfl⟩; simp; intros; omega)
        · rw [show b = false from hb.trans (decide_eq_false (by rw [isR_iff]; omega))]
          go_enter Tryd.func56, Tryd.ntmps56
          go_wp2
          first
          | done
          | (go_ret; exact ⟨rfl, rfl⟩)
          | (go_ret; refine ⟨?_, rfl⟩; simp; intros; omega)
    · rw [show b = false from hb.trans (decide_eq_false (by rw [isR_iff]; omega))]
      go_enter Tryd.func56, Tryd.ntmps56
      go_wp2
      first
      | done
      | (go_ret; exact ⟨rfl, rfl⟩)
      | (go_ret; refine ⟨?_, rfl⟩; simp; intros; omega)
  · rw [show b = false from hb.trans (decide_eq_false (by rw [isR_iff]; omega))]
    go_enter Tryd.func56, Tryd.ntmps56
    go_wp2
    first
    | done
    | (go_ret; exact ⟨rfl, rfl⟩)
    | (go_ret; refine ⟨?_, rfl⟩; simp; intros; omega)

set_option maxHeartbeats 2000000 in
theorem refChar_is (r : Int) (b : Bool) (hb : b = decide (isC r)) (w : World) : Calls Tryd.prog 44 #[.int .i32 r] w fun e w' => e = .returned (.bool b) ∧ w = w' := by
  by_cases h0 : isR r
  · by_cases h1 : r = 65534
    · subst h1
      rw [show b = false from hb.trans (by decide)]
      go_enter Tryd.func44, Tryd.ntmps44
      go_wp2_with (go_at_call 56; refine (rune_is _ true (by decide) _).mono ?_; rintro e w' ⟨rfl, rfl⟩)
      first
      | done
      | (go_ret; exact ⟨rfl, rfl⟩)
      | (go_ret; refine ⟨?_, rfl⟩; simp; intros; omega)
    · have h1b : (r == 65534) = false := beq_eq_false_iff_ne.2 h1
      by_cases h2 : r = 65535
      · subst h2
        rw [show b = false from hb.trans (by decide)]
        go_enter Tryd.func44, Tryd.ntmps44
        go_wp2_with (go_at_call 56; refine (rune_is _ true (by decide) _).mono ?_; rintro e w' ⟨rfl, rfl⟩)
        first
        | done
        | (go_ret; exact ⟨rfl, rfl⟩)
        | (go_ret; refine ⟨?_, rfl⟩; simp; intros; omega)
      · have h2b : (r == 65535) = false := beq_eq_false_iff_ne.2 h2
        by_cases h3 : r ≥ 32
        · have H := Lib.hid (show true = decide (isR r) from (decide_eq_true h0).symm)
          rw [isR_iff] at h0
          rw [show b = true from hb.trans (decide_eq_true (by rw [isC_iff]; omega))]
          clear h0
          go_enter Tryd.func44, Tryd.ntmps44
          go_wp2_with (go_at_call 56; refine (rune_is r true H.out _).mono ?_; rintro e w' ⟨rfl, rfl⟩)
          first
          | done
          | (go_ret; exact ⟨rfl, rfl⟩)
          | (go_ret; refine ⟨?_, rfl⟩; simp; intros; omega)
        · by_cases h4 : r = 9
          · subst h4
            rw [show b = true from hb.trans (by decide)]
            go_enter Tryd.func44, Tryd.ntmps44
            go_wp2_with (go_at_call 56; refine (rune_is _ true (by decide) _).mono ?_; rintro e w' ⟨rfl, rfl⟩)
            first
            | done
            | (go_ret; exact ⟨rfl, rfl⟩)
            | (go_ret; refine ⟨?_, rfl⟩; simp; intros; omega)
          · have h4b : (r == 9) = false := beq_eq_false_iff_ne.2 h4
            by_cases h5 : r = 10
            · subst h5
              rw [show b = true from hb.trans (by decide)]
              go_enter Tryd.func44, Tryd.ntmps44
              go_wp2_with (go_at_call 56; refine (rune_is _ true (by decide) _).mono ?_; rintro e w' ⟨rfl, rfl⟩)
              first
              | done
              | (go_ret; exact ⟨rfl, rfl⟩)
              | (go_ret; refine ⟨?_, rfl⟩; simp; intros; omega)
            · have h5b : (r == 10) = false := beq_eq_false_iff_ne.2 h5
              by_cases h6 : r = 13
              · subst h6
                rw [show b = true from hb.trans (by decide)]
                go_enter Tryd.func44, Tryd.ntmps44
                go_wp2_with (go_at_call 56; refine (rune_is _ true (by decide) _).mono ?_; rintro e w' ⟨rfl, rfl⟩)
                first
                | done
                | (go_ret; exact ⟨rfl, rfl⟩)
                | (go_ret; refine ⟨?_, rfl⟩; simp; intros; omega)
              · have h6b : (r == 13) = false := beq_eq_false_iff_ne.2 h6
                have H := Lib.hid (show true = decide (isR r) from (decide_eq_true h0).symm)
                rw [isR_iff] at h0
                rw [show b = false from hb.trans (decide_eq_false (by rw [isC_iff]; omega))]
                clear h0
                go_enter Tryd.func44, Tryd.ntmps44
                go_wp2_with (go_at_call 56; refine (rune_is r true H.out _).mono ?_; rintro e w' ⟨rfl, rfl⟩)
                first
                | done
                | (go_ret; exact ⟨rfl, rfl⟩)
                | (go_ret; refine ⟨?_, rfl⟩; simp; intros; omega)
  · have H := Lib.hid (show false = decide (isR r) from (decide_eq_false h0).symm)
    rw [isR_iff] at h0
    rw [show b = false from hb.trans (decide_eq_false (by rw [isC_iff]; omega))]
    clear h0
    go_enter Tryd.func44, Tryd.ntmps44
    go_wp2_with (go_at_call 56; refine (rune_is r false H.out _).mono ?_; rintro e w' ⟨rfl, rfl⟩)
    first
    | done
    | (go_ret; exact ⟨rfl, rfl⟩)
    | (go_ret; refine ⟨?_, rfl⟩; simp; intros; omega)

end Go.Proofs.YtnmailhlncchmaaDoor
