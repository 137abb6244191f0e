/-
  What is proved: contracts of the document's Rune, Char, Letter and NameRune; each turns nothing. Conditions: those in each statement.
-/
import Derived.Test.YtbokcihlbpeagaaGreatDoorUa
namespace Go.Proofs.YtbokcihlbpeagaaGreatDoor
open Go.RowKit

set_option maxHeartbeats 2000000 in
theorem rune_is (r : Int) (b : Bool) (hb : b = decide (isR r)) (w : World) : Calls Tryz.prog 33 #[.int .i32 r] w fun e w' => e = .returned (.bool b) ∧ w = w' := by
  by_cases h1 : r ≥ 0
  · by_cases h2 : r ≤ 1114111
    · by_cases h3 : r < 55296
      · rw [show b = true from hb.trans (decide_eq_true (by rw [isR_iff]; omega))]
        go_enter Tryz.func33, Tryz.ntmps33
        go_wp2
        first
        | done
        | (go_ret; exact ⟨rfl, rfl⟩)
        | (go_ret; refine ⟨?_, rfl⟩; simp; intros; omega)
      · by_cases h4 : r > 57343
        · rw [show b = true from hb.trans (decide_eq_true (by rw [isR_iff]; omega))]
          go_enter Tryz.func33, Tryz.ntmps33
          go_wp2
          first
          | done
          | (go_ret; exact ⟨rfl, rfl⟩)
          | (go_ret; refine ⟨?_, rfl⟩; simp; intros; omega)
        · rw [show b = false from hb.trans (decide_eq_false (by rw [isR_iff]; omega))]
          go_enter Tryz.func33, Tryz.ntmps33
          go_wp2
          first
          | done
          | (go_ret; exact ⟨rfl, rfl⟩)
          | (go_ret; refine ⟨?_, rfl⟩; simp; intros; omega)
    · rw [show b = false from hb.trans (decide_eq_false (by rw [isR_iff]; omega))]
      go_enter Tryz.func33, Tryz.ntmps33
      go_wp2
      first
      | done
      | (go_ret; exact ⟨rfl, rfl⟩)
      | (go_ret; refine ⟨?_, rfl⟩; simp; intros; omega)
  · rw [show b = false from hb.trans (decide_eq_false (by rw [isR_iff]; omega))]
    go_enter Tryz.func33, Tryz.ntmps33
    go_wp2
    first
    | done
    | (go_ret; exact ⟨rfl, rfl⟩)
    | (go_ret; refine ⟨?_, rfl⟩; simp; intros; omega)

set_option maxHeartbeats 2000000 in
theorem refChar_is (r : Int) (b : Bool) (hb : b = decide (isC r)) (w : World) : Calls Tryz.prog 17 #[.int .i32 r] w fun e w' => e = .returned (.bool b) ∧ w = w' := by
  by_cases h0 : isR r
  · by_cases h1 : r = 65534
    · subst h1
      rw [show b = false from hb.trans (by decide)]
      go_enter Tryz.func17, Tryz.ntmps17
      go_wp2_with (go_at_call 33; refine (rune_is _ true (by decide) _).mono ?_; rintro e w' ⟨rfl, rfl⟩)
      first
      | done
      | (go_ret; exact ⟨rfl, rfl⟩)
      | (go_ret; refine ⟨?_, rfl⟩; simp; intros; omega)
    · have h1b : (r == 65534) = false := beq_eq_false_iff_ne.2 h1
      by_cases h2 : r = 65535
      · subst h2
        rw [show b = false from hb.trans (by decide)]
        go_enter Tryz.func17, Tryz.ntmps17
        go_wp2_with (go_at_call 33; refine (rune_is _ true (by decide) _).mono ?_; rintro e w' ⟨rfl, rfl⟩)
        first
        | done
        | (go_ret; exact ⟨rfl, rfl⟩)
        | (go_ret; refine ⟨?_, rfl⟩; simp; intros; omega)
      · have h2b : (r == 65535) = false := beq_eq_false_iff_ne.2 h2
        by_cases h3 : r ≥ 32
        · have H := Lib.hid (show true = decide (isR r) from (decide_eq_true h0).symm)
          rw [isR_iff] at h0
          rw [show b = true from hb.trans (decide_eq_true (by rw [isC_iff]; omega))]
          clear h0
          go_enter Tryz.func17, Tryz.ntmps17
          go_wp2_with (go_at_call 33; refine (rune_is r true H.out _).mono ?_; rintro e w' ⟨rfl, rfl⟩)
          first
          | done
          | (go_ret; exact ⟨rfl, rfl⟩)
          | (go_ret; refine ⟨?_, rfl⟩; simp; intros; omega)
        · by_cases h4 : r = 9
          · subst h4
            rw [show b = true from hb.trans (by decide)]
            go_enter Tryz.func17, Tryz.ntmps17
            go_wp2_with (go_at_call 33; refine (rune_is _ true (by decide) _).mono ?_; rintro e w' ⟨rfl, rfl⟩)
            first
            | done
            | (go_ret; exact ⟨rfl, rfl⟩)
            | (go_ret; refine ⟨?_, rfl⟩; simp; intros; omega)
          · have h4b : (r == 9) = false := beq_eq_false_iff_ne.2 h4
            by_cases h5 : r = 10
            · subst h5
              rw [show b = true from hb.trans (by decide)]
              go_enter Tryz.func17, Tryz.ntmps17
              go_wp2_with (go_at_call 33; refine (rune_is _ true (by decide) _).mono ?_; rintro e w' ⟨rfl, rfl⟩)
              first
              | done
              | (go_ret; exact ⟨rfl, rfl⟩)
              | (go_ret; refine ⟨?_, rfl⟩; simp; intros; omega)
            · have h5b : (r == 10) = false := beq_eq_false_iff_ne.2 h5
              by_cases h6 : r = 13
              · subst h6
                rw [show b = true from hb.trans (by decide)]
                go_enter Tryz.func17, Tryz.ntmps17
                go_wp2_with (go_at_call 33; refine (rune_is _ true (by decide) _).mono ?_; rintro e w' ⟨rfl, rfl⟩)
                first
                | done
                | (go_ret; exact ⟨rfl, rfl⟩)
                | (go_ret; refine ⟨?_, rfl⟩; simp; intros; omega)
              · have h6b : (r == 13) = false := beq_eq_false_iff_ne.2 h6
                have H := Lib.hid (show true = decide (isR r) from (decide_eq_true h0).symm)
                rw [isR_iff] at h0
                rw [show b = false from hb.trans (decide_eq_false (by rw [isC_iff]; omega))]
                clear h0
                go_enter Tryz.func17, Tryz.ntmps17
                go_wp2_with (go_at_call 33; refine (rune_is r true H.out _).mono ?_; rintro e w' ⟨rfl, rfl⟩)
                first
                | done
                | (go_ret; exact ⟨rfl, rfl⟩)
                | (go_ret; refine ⟨?_, rfl⟩; simp; intros; omega)
  · have H := Lib.hid (show false = decide (isR r) from (decide_eq_false h0).symm)
    rw [isR_iff] at h0
    rw [show b = false from hb.trans (decide_eq_false (by rw [isC_iff]; omega))]
    clear h0
    go_enter Tryz.func17, Tryz.ntmps17
    go_wp2_with (go_at_call 33; refine (rune_is r false H.out _).mono ?_; rintro e w' ⟨rfl, rfl⟩)
    first
    | done
    | (go_ret; exact ⟨rfl, rfl⟩)
    | (go_ret; refine ⟨?_, rfl⟩; simp; intros; omega)

set_option maxHeartbeats 2000000 in
theorem refLetter_is (r : Int) (b : Bool) (hb : b = decide (isL r)) (w : World) : Calls Tryz.prog 64 #[.int .i32 r] w fun e w' => e = .returned (.bool b) ∧ w = w' := by
  by_cases h1 : r ≥ 65
  · by_cases h2 : r ≤ 90
    · rw [show b = true from hb.trans (decide_eq_true (by rw [isL_iff]; omega))]
      go_enter Tryz.func64, Tryz.ntmps64
      go_wp2
      first
      | done
      | (go_ret; exact ⟨rfl, rfl⟩)
      | (go_ret; refine ⟨?_, rfl⟩; simp; intros; omega)
    · by_cases h3 : r ≥ 97
      · by_cases h4 : r ≤ 122
        · rw [show b = true from hb.trans (decide_eq_true (by rw [isL_iff]; omega))]
          go_enter Tryz.func64, Tryz.ntmps64
          go_wp2
          first
          | done
          | (go_ret; exact ⟨rfl, rfl⟩)
          | (go_ret; refine ⟨?_, rfl⟩; simp; intros; omega)
        · by_cases h5 : r = 95
          · rw [show b = true from hb.trans (decide_eq_true (by rw [isL_iff]; omega))]
            go_enter Tryz.func64, Tryz.ntmps64
            go_wp2
            first
            | done
            | (go_ret; exact ⟨rfl, rfl⟩)
            | (go_ret; refine ⟨?_, rfl⟩; simp; intros; omega)
          · have h5b : (r == 95) = false := beq_eq_false_iff_ne.2 h5
            by_cases h6 : r ≥ 128
            · by_cases h7 : isC r
              · rw [show b = true from hb.trans (decide_eq_true (Or.inr (Or.inr (Or.inr ⟨h6, h7⟩))))]
                have H := Lib.hid (show true = decide (isC r) from (decide_eq_true h7).symm)
                go_enter Tryz.func64, Tryz.ntmps64
                go_wp2_with (go_at_call 17; refine (refChar_is r true H.out _).mono ?_; rintro e w' ⟨rfl, rfl⟩)
                first
                | done
                | (go_ret; exact ⟨rfl, rfl⟩)
                | (go_ret; refine ⟨?_, rfl⟩; simp; intros; omega)
              · rw [show b = false from hb.trans (decide_eq_false (by rintro (h | h | h | h) <;> first | omega | exact h7 h.2))]
                have H := Lib.hid (show false = decide (isC r) from (decide_eq_false h7).symm)
                go_enter Tryz.func64, Tryz.ntmps64
                go_wp2_with (go_at_call 17; refine (refChar_is r false H.out _).mono ?_; rintro e w' ⟨rfl, rfl⟩)
                first
                | done
                | (go_ret; exact ⟨rfl, rfl⟩)
                | (go_ret; refine ⟨?_, rfl⟩; simp; intros; omega)
            · rw [show b = false from hb.trans (decide_eq_false (by rw [isL_iff]; omega))]
              go_enter Tryz.func64, Tryz.ntmps64
              go_wp2
              first
              | done
              | (go_ret; exact ⟨rfl, rfl⟩)
              | (go_ret; refine ⟨?_, rfl⟩; simp; intros; omega)
      · by_cases h5 : r = 95
        · rw [show b = true from hb.trans (decide_eq_true (by rw [isL_iff]; omega))]
          go_enter Tryz.func64, Tryz.ntmps64
          go_wp2
          first
          | done
          | (go_ret; exact ⟨rfl, rfl⟩)
          | (go_ret; refine ⟨?_, rfl⟩; simp; intros; omega)
        · have h5b : (r == 95) = false := beq_eq_false_iff_ne.2 h5
          by_cases h6 : r ≥ 128
          · by_cases h7 : isC r
            · rw [show b = true from hb.trans (decide_eq_true (Or.inr (Or.inr (Or.inr ⟨h6, h7⟩))))]
              have H := Lib.hid (show true = decide (isC r) from (decide_eq_true h7).symm)
              go_enter Tryz.func64, Tryz.ntmps64
              go_wp2_with (go_at_call 17; refine (refChar_is r true H.out _).mono ?_; rintro e w' ⟨rfl, rfl⟩)
              first
              | done
              | (go_ret; exact ⟨rfl, rfl⟩)
              | (go_ret; refine ⟨?_, rfl⟩; simp; intros; omega)
            · rw [show b = false from hb.trans (decide_eq_false (by rintro (h | h | h | h) <;> first | omega | exact h7 h.2))]
              have H := Lib.hid (show false = decide (isC r) from (decide_eq_false h7).symm)
              go_enter Tryz.func64, Tryz.ntmps64
              go_wp2_with (go_at_call 17; refine (refChar_is r false H.out _).mono ?_; rintro e w' ⟨rfl, rfl⟩)
              first
              | done
              | (go_ret; exact ⟨rfl, rfl⟩)
              | (go_ret; refine ⟨?_, rfl⟩; simp; intros; omega)
          · rw [show b = false from hb.trans (decide_eq_false (by rw [isL_iff]; omega))]
            go_enter Tryz.func64, Tryz.ntmps64
            go_wp2
            first
            | done
            | (go_ret; exact ⟨rfl, rfl⟩)
            | (go_ret; refine ⟨?_, rfl⟩; simp; intros; omega)
  · by_cases h3 : r ≥ 97
    · by_cases h4 : r ≤ 122
      · rw [show b = true from hb.trans (decide_eq_true (by rw [isL_iff]; omega))]
        go_enter Tryz.func64, Tryz.ntmps64
        go_wp2
        first
        | done
        | (go_ret; exact ⟨rfl, rfl⟩)
        | (go_ret; refine ⟨?_, rfl⟩; simp; intros; omega)
      · by_cases h5 : r = 95
        · rw [show b = true from hb.trans (decide_eq_true (by rw [isL_iff]; omega))]
          go_enter Tryz.func64, Tryz.ntmps64
          go_wp2
          first
          | done
          | (go_ret; exact ⟨rfl, rfl⟩)
          | (go_ret; refine ⟨?_, rfl⟩; simp; intros; omega)
        · have h5b : (r == 95) = false := beq_eq_false_iff_ne.2 h5
          by_cases h6 : r ≥ 128
          · by_cases h7 : isC r
            · rw [show b = true from hb.trans (decide_eq_true (Or.inr (Or.inr (Or.inr ⟨h6, h7⟩))))]
              have H := Lib.hid (show true = decide (isC r) from (decide_eq_true h7).symm)
              go_enter Tryz.func64, Tryz.ntmps64
              go_wp2_with (go_at_call 17; refine (refChar_is r true H.out _).mono ?_; rintro e w' ⟨rfl, rfl⟩)
              first
              | done
              | (go_ret; exact ⟨rfl, rfl⟩)
              | (go_ret; refine ⟨?_, rfl⟩; simp; intros; omega)
            · rw [show b = false from hb.trans (decide_eq_false (by rintro (h | h | h | h) <;> first | omega | exact h7 h.2))]
              have H := Lib.hid (show false = decide (isC r) from (decide_eq_false h7).symm)
              go_enter Tryz.func64, Tryz.ntmps64
              go_wp2_with (go_at_call 17; refine (refChar_is r false H.out _).mono ?_; rintro e w' ⟨rfl, rfl⟩)
              first
              | done
              | (go_ret; exact ⟨rfl, rfl⟩)
              | (go_ret; refine ⟨?_, rfl⟩; simp; intros; omega)
          · rw [show b = false from hb.trans (decide_eq_false (by rw [isL_iff]; omega))]
            go_enter Tryz.func64, Tryz.ntmps64
            go_wp2
            first
            | done
            | (go_ret; exact ⟨rfl, rfl⟩)
            | (go_ret; refine ⟨?_, rfl⟩; simp; intros; omega)
    · by_cases h5 : r = 95
      · rw [show b = true from hb.trans (decide_eq_true (by rw [isL_iff]; omega))]
        go_enter Tryz.func64, Tryz.ntmps64
        go_wp2
        first
        | done
        | (go_ret; exact ⟨rfl, rfl⟩)
        | (go_ret; refine ⟨?_, rfl⟩; simp; intros; omega)
      · have h5b : (r == 95) = false := beq_eq_false_iff_ne.2 h5
        by_cases h6 : r ≥ 128
        · by_cases h7 : isC r
          · rw [show b = true from hb.trans (decide_eq_true (Or.inr (Or.inr (Or.inr ⟨h6, h7⟩))))]
            have H := Lib.hid (show true = decide (isC r) from (decide_eq_true h7).symm)
            go_enter Tryz.func64, Tryz.ntmps64
            go_wp2_with (go_at_call 17; refine (refChar_is r true H.out _).mono ?_; rintro e w' ⟨rfl, rfl⟩)
            first
            | done
            | (go_ret; exact ⟨rfl, rfl⟩)
            | (go_ret; refine ⟨?_, rfl⟩; simp; intros; omega)
          · rw [show b = false from hb.trans (decide_eq_false (by rintro (h | h | h | h) <;> first | omega | exact h7 h.2))]
            have H := Lib.hid (show false = decide (isC r) from (decide_eq_false h7).symm)
            go_enter Tryz.func64, Tryz.ntmps64
            go_wp2_with (go_at_call 17; refine (refChar_is r false H.out _).mono ?_; rintro e w' ⟨rfl, rfl⟩)
            first
            | done
            | (go_ret; exact ⟨rfl, rfl⟩)
            | (go_ret; refine ⟨?_, rfl⟩; simp; intros; omega)
        · rw [show b = false from hb.trans (decide_eq_false (by rw [isL_iff]; omega))]
          go_enter Tryz.func64, Tryz.ntmps64
          go_wp2
          first
          | done
          | (go_ret; exact ⟨rfl, rfl⟩)
          | (go_ret; refine ⟨?_, rfl⟩; simp; intros; omega)

set_option maxHeartbeats 2000000 in
theorem refName_is (r : Int) (b : Bool) (hb : b = decide (isN r)) (w : World) : Calls Tryz.prog 65 #[.int .i32 r] w fun e w' => e = .returned (.bool b) ∧ w = w' := by
  by_cases h7 : isL r
  · have H := Lib.hid (show true = decide (isL r) from (decide_eq_true h7).symm)
    rw [show b = true from hb.trans (decide_eq_true (Or.inl h7))]
    go_enter Tryz.func65, Tryz.ntmps65
    go_wp2_with (go_at_call 64; refine (refLetter_is r true H.out _).mono ?_; rintro e w' ⟨rfl, rfl⟩)
    first
    | done
    | (go_ret; exact ⟨rfl, rfl⟩)
    | (go_ret; refine ⟨?_, rfl⟩; simp; intros; omega)
  · by_cases h1 : r ≥ 48
    · by_cases h2 : r ≤ 57
      · have H := Lib.hid (show false = decide (isL r) from (decide_eq_false h7).symm)
        rw [show b = true from hb.trans (decide_eq_true (by rw [isN_iff]; omega))]
        go_enter Tryz.func65, Tryz.ntmps65
        go_wp2_with (go_at_call 64; refine (refLetter_is r false H.out _).mono ?_; rintro e w' ⟨rfl, rfl⟩)
        first
        | done
        | (go_ret; exact ⟨rfl, rfl⟩)
        | (go_ret; refine ⟨?_, rfl⟩; simp; intros; omega)
      · by_cases h3 : r = 45
        · subst h3
          rw [show b = true from hb.trans (by decide)]
          go_enter Tryz.func65, Tryz.ntmps65
          go_wp2_with (go_at_call 64; refine (refLetter_is _ false (by decide) _).mono ?_; rintro e w' ⟨rfl, rfl⟩)
          first
          | done
          | (go_ret; exact ⟨rfl, rfl⟩)
          | (go_ret; refine ⟨?_, rfl⟩; simp; intros; omega)
        · have h3b : (r == 45) = false := beq_eq_false_iff_ne.2 h3
          by_cases h4 : r = 46
          · subst h4
            rw [show b = true from hb.trans (by decide)]
            go_enter Tryz.func65, Tryz.ntmps65
            go_wp2_with (go_at_call 64; refine (refLetter_is _ false (by decide) _).mono ?_; rintro e w' ⟨rfl, rfl⟩)
            first
            | done
            | (go_ret; exact ⟨rfl, rfl⟩)
            | (go_ret; refine ⟨?_, rfl⟩; simp; intros; omega)
          · have h4b : (r == 46) = false := beq_eq_false_iff_ne.2 h4
            have H := Lib.hid (show false = decide (isL r) from (decide_eq_false h7).symm)
            rw [show b = false from hb.trans (decide_eq_false (by rintro (h | h | h | h) <;> first | omega | exact h7 h))]
            go_enter Tryz.func65, Tryz.ntmps65
            go_wp2_with (go_at_call 64; refine (refLetter_is r false H.out _).mono ?_; rintro e w' ⟨rfl, rfl⟩)
            first
            | done
            | (go_ret; exact ⟨rfl, rfl⟩)
            | (go_ret; refine ⟨?_, rfl⟩; simp; intros; omega)
    · by_cases h3 : r = 45
      · subst h3
        rw [show b = true from hb.trans (by decide)]
        go_enter Tryz.func65, Tryz.ntmps65
        go_wp2_with (go_at_call 64; refine (refLetter_is _ false (by decide) _).mono ?_; rintro e w' ⟨rfl, rfl⟩)
        first
        | done
        | (go_ret; exact ⟨rfl, rfl⟩)
        | (go_ret; refine ⟨?_, rfl⟩; simp; intros; omega)
      · have h3b : (r == 45) = false := beq_eq_false_iff_ne.2 h3
        by_cases h4 : r = 46
        · subst h4
          rw [show b = true from hb.trans (by decide)]
          go_enter Tryz.func65, Tryz.ntmps65
          go_wp2_with (go_at_call 64; refine (refLetter_is _ false (by decide) _).mono ?_; rintro e w' ⟨rfl, rfl⟩)
          first
          | done
          | (go_ret; exact ⟨rfl, rfl⟩)
          | (go_ret; refine ⟨?_, rfl⟩; simp; intros; omega)
        · have h4b : (r == 46) = false := beq_eq_false_iff_ne.2 h4
          have H := Lib.hid (show false = decide (isL r) from (decide_eq_false h7).symm)
          rw [show b = false from hb.trans (decide_eq_false (by rintro (h | h | h | h) <;> first | omega | exact h7 h))]
          go_enter Tryz.func65, Tryz.ntmps65
          go_wp2_with (go_at_call 64; refine (refLetter_is r false H.out _).mono ?_; rintro e w' ⟨rfl, rfl⟩)
          first
          | done
          | (go_ret; exact ⟨rfl, rfl⟩)
          | (go_ret; refine ⟨?_, rfl⟩; simp; intros; omega)
end Go.Proofs.YtbokcihlbpeagaaGreatDoor
