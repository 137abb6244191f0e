/-
  What is proved: contract of the document's Bits and Put. Conditions: those in each statement.
-/
import Derived.Test.YtnmailhlncchmaaDoorUg
import Derived.Test.YtnmailhlncchmaaDoorVa
namespace Go.Proofs.YtnmailhlncchmaaDoor
open Go.RowKit

theorem bits_6_5 (r : Nat) (w : World) (hr : r ≤ 1114111) :
    Calls Tryd.prog 66 #[.int .i32 (r : Int), .int .u64 6, .int .u64 5] w fun e w' => e = .returned (.int .u8 ((r / 64 % 32 : Nat) : Int)) ∧ w = w' := by
  go_enter Tryd.func66, Tryd.ntmps66
  go_wp2
  go_ret
  exact ⟨by show Ending.returned (Value.int .u8 _) = _; congr 2, rfl⟩
theorem bits_0_6 (r : Nat) (w : World) (hr : r ≤ 1114111) :
    Calls Tryd.prog 66 #[.int .i32 (r : Int), .int .u64 0, .int .u64 6] w fun e w' => e = .returned (.int .u8 ((r % 64 : Nat) : Int)) ∧ w = w' := by
  go_enter Tryd.func66, Tryd.ntmps66
  go_wp2
  go_ret
  exact ⟨by show Ending.returned (Value.int .u8 _) = _; congr 2, rfl⟩
theorem bits_12_4 (r : Nat) (w : World) (hr : r ≤ 1114111) :
    Calls Tryd.prog 66 #[.int .i32 (r : Int), .int .u64 12, .int .u64 4] w fun e w' => e = .returned (.int .u8 ((r / 4096 % 16 : Nat) : Int)) ∧ w = w' := by
  go_enter Tryd.func66, Tryd.ntmps66
  go_wp2
  go_ret
  exact ⟨by show Ending.returned (Value.int .u8 _) = _; congr 2, rfl⟩
theorem bits_6_6 (r : Nat) (w : World) (hr : r ≤ 1114111) :
    Calls Tryd.prog 66 #[.int .i32 (r : Int), .int .u64 6, .int .u64 6] w fun e w' => e = .returned (.int .u8 ((r / 64 % 64 : Nat) : Int)) ∧ w = w' := by
  go_enter Tryd.func66, Tryd.ntmps66
  go_wp2
  go_ret
  exact ⟨by show Ending.returned (Value.int .u8 _) = _; congr 2, rfl⟩
theorem bits_18_3 (r : Nat) (w : World) (hr : r ≤ 1114111) :
    Calls Tryd.prog 66 #[.int .i32 (r : Int), .int .u64 18, .int .u64 3] w fun e w' => e = .returned (.int .u8 ((r / 262144 % 8 : Nat) : Int)) ∧ w = w' := by
  go_enter Tryd.func66, Tryd.ntmps66
  go_wp2
  go_ret
  exact ⟨by show Ending.returned (Value.int .u8 _) = _; congr 2, rfl⟩
theorem bits_12_6 (r : Nat) (w : World) (hr : r ≤ 1114111) :
    Calls Tryd.prog 66 #[.int .i32 (r : Int), .int .u64 12, .int .u64 6] w fun e w' => e = .returned (.int .u8 ((r / 4096 % 64 : Nat) : Int)) ∧ w = w' := by
  go_enter Tryd.func66, Tryd.ntmps66
  go_wp2
  go_ret
  exact ⟨by show Ending.returned (Value.int .u8 _) = _; congr 2, rfl⟩

set_option maxRecDepth 100000 in
set_option maxHeartbeats 1000000 in
theorem refPut_any (r : Int) (w : World) : Calls Tryd.prog 55 #[.int .i32 r] w (RowPost w (put r)) := by
  by_cases hR : isR r
  · have HR := Lib.hid (show true = decide (isR r) from (decide_eq_true hR).symm)
    have hR' := hR
    rw [isR_iff] at hR'
    obtain ⟨m, rfl⟩ := Int.eq_ofNat_of_zero_le hR'.1
    have hm : m ≤ 1114111 := by omega
    have HI := Lib.hid hR
    clear hR hR'
    by_cases h1 : m < 128
    · have HP := Lib.hid (put_1 m h1)
      have HZ := Lib.hid (sz1 (r := (m : Int)) (by omega) (by omega))
      go_enter Tryd.func55, Tryd.ntmps55
      go_wp2_with (first
        | (go_at_call 56; refine (rune_is _ true HR.out _).mono ?_; rintro e w' ⟨rfl, rfl⟩))
      go_ret
      exact RowPost.new HP.out rfl (by rw [put_length, HZ.out])
    by_cases h2 : m < 2048
    · have HP := Lib.hid (put_2 m h2 h1)
      have HZ := Lib.hid (sz2 (r := (m : Int)) (by omega) (by omega))
      have hq1 : m / 64 % 32 < 32 := by omega
      have hq2 : m % 64 < 64 := by omega
      have B1 := fun W => Lib.hid (bits_6_5 m W hm)
      have B2 := fun W => Lib.hid (bits_0_6 m W hm)
      generalize m / 64 % 32 = q1 at *
      generalize m % 64 = q2 at *
      go_enter Tryd.func55, Tryd.ntmps55
      go_wp2_with (first
        | (go_at_call 56; refine (rune_is _ true HR.out _).mono ?_; rintro e w' ⟨rfl, rfl⟩)
        | (go_at_call 66; (with_reducible refine (B1 _).out.mono ?_); rintro e w' ⟨rfl, rfl⟩)
        | (go_at_call 66; (with_reducible refine (B2 _).out.mono ?_); rintro e w' ⟨rfl, rfl⟩))
      go_ret
      exact RowPost.new HP.out rfl (by rw [put_length, HZ.out])
    by_cases h3 : m < 65536
    · have HP := Lib.hid (put_3 m HI.out h3 h2)
      have HZ := Lib.hid (sz3 (r := (m : Int)) HI.out (by omega) (by omega))
      have g1 : ¬ (m : Int) < 128 := by omega
      have g2 : ¬ (m : Int) < 2048 := by omega
      have g3 : (m : Int) < 65536 := by omega
      have hq1 : m / 4096 % 16 < 16 := by omega
      have hq2 : m / 64 % 64 < 64 := by omega
      have hq3 : m % 64 < 64 := by omega
      have B1 := fun W => Lib.hid (bits_12_4 m W hm)
      have B2 := fun W => Lib.hid (bits_6_6 m W hm)
      have B3 := fun W => Lib.hid (bits_0_6 m W hm)
      generalize m / 4096 % 16 = q1 at *
      generalize m / 64 % 64 = q2 at *
      generalize m % 64 = q3 at *
      clear h1 h2 h3 hm
      generalize (m : Int) = z at *
      go_enter Tryd.func55, Tryd.ntmps55
      go_wp2_with (first
        | (go_at_call 56; refine (rune_is _ true HR.out _).mono ?_; rintro e w' ⟨rfl, rfl⟩)
        | (go_at_call 66; (with_reducible refine (B1 _).out.mono ?_); rintro e w' ⟨rfl, rfl⟩)
        | (go_at_call 66; (with_reducible refine (B2 _).out.mono ?_); rintro e w' ⟨rfl, rfl⟩)
        | (go_at_call 66; (with_reducible refine (B3 _).out.mono ?_); rintro e w' ⟨rfl, rfl⟩))
      go_ret
      exact RowPost.new HP.out rfl (by rw [put_length, HZ.out])
    · have HP := Lib.hid (put_4 m HI.out h3)
      have HZ := Lib.hid (sz4 (r := (m : Int)) HI.out (by omega))
      have g1 : ¬ (m : Int) < 128 := by omega
      have g2 : ¬ (m : Int) < 2048 := by omega
      have g3 : ¬ (m : Int) < 65536 := by omega
      have hq1 : m / 262144 % 8 < 8 := by omega
      have hq2 : m / 4096 % 64 < 64 := by omega
      have hq3 : m / 64 % 64 < 64 := by omega
      have hq4 : m % 64 < 64 := by omega
      have B1 := fun W => Lib.hid (bits_18_3 m W hm)
      have B2 := fun W => Lib.hid (bits_12_6 m W hm)
      have B3 := fun W => Lib.hid (bits_6_6 m W hm)
      have B4 := fun W => Lib.hid (bits_0_6 m W hm)
      generalize m / 262144 % 8 = q1 at *
      generalize m / 4096 % 64 = q2 at *
      generalize m / 64 % 64 = q3 at *
      generalize m % 64 = q4 at *
      clear h1 h2 h3 hm
      generalize (m : Int) = z at *
      go_enter Tryd.func55, Tryd.ntmps55
      go_wp2_with (first
        | (go_at_call 56; refine (rune_is _ true HR.out _).mono ?_; rintro e w' ⟨rfl, rfl⟩)
        | (go_at_call 66; (with_reducible refine (B1 _).out.mono ?_); rintro e w' ⟨rfl, rfl⟩)
        | (go_at_call 66; (with_reducible refine (B2 _).out.mono ?_); rintro e w' ⟨rfl, rfl⟩)
        | (go_at_call 66; (with_reducible refine (B3 _).out.mono ?_); rintro e w' ⟨rfl, rfl⟩)
        | (go_at_call 66; (with_reducible refine (B4 _).out.mono ?_); rintro e w' ⟨rfl, rfl⟩))
      go_ret
      exact RowPost.new HP.out rfl (by rw [put_length, HZ.out])
  · have HR := Lib.hid (show false = decide (isR r) from (decide_eq_false hR).symm)
    have HP := Lib.hid (put_not hR)
    clear hR
    go_enter Tryd.func55, Tryd.ntmps55
    go_wp2_with (go_at_call 56; refine (rune_is _ false HR.out _).mono ?_; rintro e w' ⟨rfl, rfl⟩)
    go_ret
    exact ⟨none, 0, 0, rfl, by rw [HP.out]; exact Hold.nil _, Below.refl _ _⟩
end Go.Proofs.YtnmailhlncchmaaDoor
