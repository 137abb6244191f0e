/-
  What is proved: contracts of value's isLetter, isFurther, Name, isCharacters, and of the document's Name and Chars. Conditions: those in each statement.
-/
import Derived.Test.YtnmailhlncchmaaDoorXm
import Derived.Test.YtnmailhlncchmaaDoorVh
import Derived.Deep.LoopGhost
namespace Go.Proofs.YtnmailhlncchmaaDoor
open Go.RowKit

theorem letter_is (c : UInt8) (b : Bool) (hb : b = leB c) (w : World) : Calls Tryd.prog 33 #[.int .u8 (c.toNat : Int)] w fun e w' => e = .returned (.bool b) ∧ w = w' := by
  subst hb
  have h0 := c.toNat_lt
  unfold leB
  generalize c.toNat = n at *
  by_cases h1 : 65 ≤ n
  · by_cases h2 : n ≤ 90
    · rw [decide_eq_true (by omega)]
      go_enter Tryd.func33, Tryd.ntmps33
      go_wp2
      first | done | (go_ret; exact ⟨rfl, rfl⟩)
    · by_cases h3 : 97 ≤ n
      · by_cases h4 : n ≤ 122
        · rw [decide_eq_true (by omega)]
          go_enter Tryd.func33, Tryd.ntmps33
          go_wp2
          first | done | (go_ret; exact ⟨rfl, rfl⟩)
        · rw [decide_eq_false (by omega)]
          go_enter Tryd.func33, Tryd.ntmps33
          go_wp2
          first | done | (go_ret; exact ⟨rfl, rfl⟩) | (go_ret; refine ⟨?_, rfl⟩; simp; intros; omega)
      · by_cases h5 : n = 95
        · subst h5
          rw [decide_eq_true (by omega)]
          go_enter Tryd.func33, Tryd.ntmps33
          go_wp2
          first | done | (go_ret; exact ⟨rfl, rfl⟩)
        · rw [decide_eq_false (by omega)]
          go_enter Tryd.func33, Tryd.ntmps33
          go_wp2
          first | done | (go_ret; exact ⟨rfl, rfl⟩) | (go_ret; refine ⟨?_, rfl⟩; simp; intros; omega)
  · rw [decide_eq_false (by omega)]
    go_enter Tryd.func33, Tryd.ntmps33
    go_wp2
    first | done | (go_ret; exact ⟨rfl, rfl⟩) | (go_ret; refine ⟨?_, rfl⟩; simp; intros; omega)
theorem further_is (c : UInt8) (b : Bool) (hb : b = fuB c) (w : World) : Calls Tryd.prog 34 #[.int .u8 (c.toNat : Int)] w fun e w' => e = .returned (.bool b) ∧ w = w' := by
  subst hb
  have h0 := c.toNat_lt
  unfold fuB
  generalize c.toNat = n at *
  by_cases h1 : 48 ≤ n
  · by_cases h2 : n ≤ 57
    · rw [decide_eq_true (by omega)]
      go_enter Tryd.func34, Tryd.ntmps34
      go_wp2
      first | done | (go_ret; exact ⟨rfl, rfl⟩)
    · rw [decide_eq_false (by omega)]
      go_enter Tryd.func34, Tryd.ntmps34
      go_wp2
      first | done | (go_ret; exact ⟨rfl, rfl⟩) | (go_ret; refine ⟨?_, rfl⟩; simp; intros; omega)
  · by_cases h5 : n = 45
    · subst h5
      rw [decide_eq_true (by omega)]
      go_enter Tryd.func34, Tryd.ntmps34
      go_wp2
      first | done | (go_ret; exact ⟨rfl, rfl⟩)
    · rw [decide_eq_false (by omega)]
      go_enter Tryd.func34, Tryd.ntmps34
      go_wp2
      first | done | (go_ret; exact ⟨rfl, rfl⟩) | (go_ret; refine ⟨?_, rfl⟩; simp; intros; omega)

set_option maxHeartbeats 4000000 in
set_option maxRecDepth 100000 in
theorem isChars_any (w : World) (s : ByteArray) (hs : s.size ≤ 65536) : Calls Tryd.prog 28 #[.string s] w fun e w' => e = .returned (.bool (chsB s.data.toList)) ∧ w = w' := by
  have HO : Hid (chsB s.data.toList = chsB (tl s 0)) := Lib.hid rfl
  have HS := Lib.hid hs

  go_enter Tryd.func28, Tryd.ntmps28
  go_wp2
  go_loop [3] (fun i => ∃ k : Nat, k ≤ s.size ∧ i = .int .i64 k ∧ Hid (chsB (tl s 0) = chsB (tl s k))) (fun i => s.size - (intOf i).toNat)
  case atStart => exact ⟨0, Nat.zero_le _, rfl, Lib.hid rfl⟩
  case round =>
    obtain ⟨k, hk, rfl, HC⟩ := hrel
    by_cases he : k < s.size
    · have hne : tl s k ≠ [] := fun h => by have := (tl_nil hk).1 h; omega
      have HNX := Lib.hid (fun W => next_any s (k : Int) W (by have := HS.out; omega))
      rw [nxAt_nat, show s.data.toList.drop k = tl s k from rfl] at HNX
      have hnl := nx_le (tl s k)
      rw [tl_length] at hnl
      by_cases hc : isC (nx (tl s k)).1
      · have hpos := (nx_c hc).1
        have HN : Hid (chsB (tl s 0) = chsB (tl s (k + (nx (tl s k)).2))) := Lib.hid (by rw [HC.out, chsB_on hne hc, tl_drop])
        have HCH := Lib.hid (fun W => char_is (nx (tl s k)).1 true (decide_eq_true hc).symm W)
        clear hc HC hne
        generalize nx (tl s k) = X at *
        obtain ⟨r, n⟩ := X
        have hnz : ¬ (n : Int) = 0 := by simp only at hpos; omega
        simp only at hpos hnl
        go_wp2_with (first
          | (go_at_call 41; refine (HNX.out _).mono ?_; rintro e w2 ⟨rfl, rfl⟩)
          | (go_at_call 42; refine (HCH.out _).mono ?_; rintro e w2 ⟨rfl, rfl⟩))
        go_round
        case rel => exact ⟨k + n, by omega, by go_num, HN⟩
        case measure => simp [intOf]; omega
      · have HCH := Lib.hid (fun W => char_is (nx (tl s k)).1 false (decide_eq_false hc).symm W)
        have HT : Hid (chsB s.data.toList = false) := Lib.hid (by rw [HO.out, HC.out, chsB_no hne hc])
        clear hc HC hne
        generalize nx (tl s k) = X at *
        obtain ⟨r, n⟩ := X
        by_cases hn : n = 0
        · subst hn
          go_wp2_with (first
            | (go_at_call 41; refine (HNX.out _).mono ?_; rintro e w2 ⟨rfl, rfl⟩)
            | (go_at_call 42; refine (HCH.out _).mono ?_; rintro e w2 ⟨rfl, rfl⟩))
          go_ret
          exact ⟨by rw [HT.out]; rfl, rfl⟩
        · have hnz : ¬ (n : Int) = 0 := by omega
          go_wp2_with (first
            | (go_at_call 41; refine (HNX.out _).mono ?_; rintro e w2 ⟨rfl, rfl⟩)
            | (go_at_call 42; refine (HCH.out _).mono ?_; rintro e w2 ⟨rfl, rfl⟩))
          go_ret
          exact ⟨by rw [HT.out]; rfl, rfl⟩
    · have HT : Hid (chsB s.data.toList = true) := Lib.hid (by rw [HO.out, HC.out, (tl_nil hk).2 (by omega), chsB_nil])
      clear HC
      go_wp2
      go_ret
      exact ⟨by rw [HT.out]; rfl, rfl⟩
set_option maxHeartbeats 4000000 in
set_option maxRecDepth 100000 in
theorem chars_any (w : World) (s : ByteArray) (hs : s.size ≤ 65536) : Calls Tryd.prog 29 #[.string s] w fun e w' => e = .returned (.bool (chsB s.data.toList)) ∧ Below w.heap.size w w' := by
  have HO : Hid (chsB s.data.toList = chsB (tl s 0)) := Lib.hid rfl
  have HS := Lib.hid hs

  go_enter Tryd.func29, Tryd.ntmps29
  go_wp2
  go_loopg [3] s.size (fun kx v3 wr => ∃ k : Nat, v3 = .int .i64 (k : Int) ∧ k ≤ s.size ∧ s.size - k ≤ kx ∧ Hid (chsB (tl s 0) = chsB (tl s k)) ∧ Hid (Below w.heap.size w wr))
  case atStart => exact ⟨0, rfl, Nat.zero_le _, by omega, Lib.hid rfl, Lib.hid (Below.refl _ _)⟩
  case round =>
    obtain ⟨k, rfl, hk, hkx, HC, HB⟩ := hrel
    by_cases he : k < s.size
    · have hne : tl s k ≠ [] := fun h => by have := (tl_nil hk).1 h; omega
      have HNX := Lib.hid (fun W => refNext_any s (k : Int) W (by have := HS.out; omega))
      rw [nxAt_nat, show s.data.toList.drop k = tl s k from rfl] at HNX
      have hnl := nx_le (tl s k)
      rw [tl_length] at hnl
      by_cases hc : isC (nx (tl s k)).1
      · have hpos := (nx_c hc).1
        have HN : Hid (chsB (tl s 0) = chsB (tl s (k + (nx (tl s k)).2))) := Lib.hid (by rw [HC.out, chsB_on hne hc, tl_drop])
        have HCH := Lib.hid (fun W => refChar_is (nx (tl s k)).1 true (decide_eq_true hc).symm W)
        clear hc HC hne
        generalize nx (tl s k) = X at *
        obtain ⟨r, n⟩ := X
        have hnz : ¬ (n : Int) = 0 := by simp only at hpos; omega
        simp only at hpos hnl
        go_wp2_with (first
          | (go_at_call 43; refine (HNX.out _).mono ?_; rintro e w2 ⟨rfl, hb2⟩; have HB2 := Lib.hid (HB.out.trans (hb2.mono HB.out.size)); clear hb2)
          | (go_at_call 44; refine (HCH.out _).mono ?_; rintro e w3 ⟨rfl, rfl⟩))
        go_roundg (s.size - (k + n))
        case measure => omega
        case rel => exact ⟨k + n, by go_num, by omega, Nat.le_refl _, HN, HB2⟩
      · have HCH := Lib.hid (fun W => refChar_is (nx (tl s k)).1 false (decide_eq_false hc).symm W)
        have HT : Hid (chsB s.data.toList = false) := Lib.hid (by rw [HO.out, HC.out, chsB_no hne hc])
        clear hc HC hne
        generalize nx (tl s k) = X at *
        obtain ⟨r, n⟩ := X
        by_cases hn : n = 0
        · subst hn
          go_wp2_with (first
            | (go_at_call 43; refine (HNX.out _).mono ?_; rintro e w2 ⟨rfl, hb2⟩; have HB2 := Lib.hid (HB.out.trans (hb2.mono HB.out.size)); clear hb2)
            | (go_at_call 44; refine (HCH.out _).mono ?_; rintro e w3 ⟨rfl, rfl⟩))
          go_ret
          exact ⟨by rw [HT.out]; rfl, HB2.out⟩
        · have hnz : ¬ (n : Int) = 0 := by omega
          go_wp2_with (first
            | (go_at_call 43; refine (HNX.out _).mono ?_; rintro e w2 ⟨rfl, hb2⟩; have HB2 := Lib.hid (HB.out.trans (hb2.mono HB.out.size)); clear hb2)
            | (go_at_call 44; refine (HCH.out _).mono ?_; rintro e w3 ⟨rfl, rfl⟩))
          go_ret
          exact ⟨by rw [HT.out]; rfl, HB2.out⟩
    · have HT : Hid (chsB s.data.toList = true) := Lib.hid (by rw [HO.out, HC.out, (tl_nil hk).2 (by omega), chsB_nil])
      clear HC
      go_wp2
      go_ret
      exact ⟨by rw [HT.out]; rfl, HB.out⟩
end Go.Proofs.YtnmailhlncchmaaDoor
