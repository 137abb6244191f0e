/-
  What is proved: contracts of utf's beginning, Next and Bad. Conditions: those in each statement.
-/
import Derived.Test.YtnmailhlncchmaaDoorUa
import Derived.Test.YtnmailhlncchmaaDoorOwn
namespace Go.Proofs.YtnmailhlncchmaaDoor
open Go.RowKit

theorem size_toList (s : ByteArray) : s.data.toList.length = s.size := by rw [Array.length_toList]; rfl
theorem str_at (s : ByteArray) (k : Nat) (_h : k < s.size) (h' : k < s.data.toList.length) : s.data.toList[k] = s[k] := by
  rw [Array.getElem_toList]
  rfl
theorem and_low (b : Nat) (hb : b < 256) (k : Nat) (hk : k ≤ 7) : bits .and .u8 (b : Int) ((2 ^ k - 1 : Nat) : Int) = ((b % 2 ^ k : Nat) : Int) := by
  have h2 : (2 : Nat) ^ k ≤ 2 ^ 7 := Nat.pow_le_pow_right (by omega) hk
  rw [u8_and_nat b (2 ^ k - 1) hb (by omega), Nat.and_two_pow_sub_one_eq_mod]
theorem and31 (b : Nat) (hb : b < 256) : bits .and .u8 (b : Int) 31 = ((b % 32 : Nat) : Int) := and_low b hb 5 (by omega)
theorem and15 (b : Nat) (hb : b < 256) : bits .and .u8 (b : Int) 15 = ((b % 16 : Nat) : Int) := and_low b hb 4 (by omega)
theorem and7 (b : Nat) (hb : b < 256) : bits .and .u8 (b : Int) 7 = ((b % 8 : Nat) : Int) := and_low b hb 3 (by omega)
theorem and63 (b : Nat) (hb : b < 256) : bits .and .u8 (b : Int) 63 = ((b % 64 : Nat) : Int) := and_low b hb 6 (by omega)
theorem nat192 : ∀ b < 256, b &&& 192 = b / 64 * 64 := by decide +kernel
theorem and192 (b : Nat) (hb : b < 256) : bits .and .u8 (b : Int) 192 = ((b / 64 * 64 : Nat) : Int) := by
  rw [show (192 : Int) = ((192 : Nat) : Int) from rfl, u8_and_nat b 192 hb (by omega), nat192 b hb]

set_option maxRecDepth 100000 in
theorem beginning_any (b : Nat) (hb : b < 256) (w : World) : Calls Tryd.prog 53 #[.int .u8 (b : Int)] w fun e w' => e = .returned (.tuple #[.int .i32 (beg b).1, .int .i64 ((beg b).2 : Int)]) ∧ w = w' := by
  by_cases h1 : b < 128
  · have he : beg b = ((b : Int), 1) := by unfold beg; rw [if_pos h1]
    rw [he]; clear he
    go_enter Tryd.func53, Tryd.ntmps53
    go_wp2
    go_ret2
    exact ⟨rfl, rfl⟩
  by_cases h2 : b < 192
  · have he : beg b = (0, 0) := by unfold beg; rw [if_neg h1, if_pos h2]
    rw [he]; clear he
    go_enter Tryd.func53, Tryd.ntmps53
    go_wp2
    go_ret2
    exact ⟨rfl, rfl⟩
  by_cases h3 : b < 224
  · have he : beg b = (((b % 32 : Nat) : Int), 2) := by unfold beg; rw [if_neg h1, if_neg h2, if_pos h3]
    rw [he]; clear he
    have ha := and31 b hb
    go_enter Tryd.func53, Tryd.ntmps53
    go_wp2
    go_ret2
    exact ⟨rfl, rfl⟩
  by_cases h4 : b < 240
  · have he : beg b = (((b % 16 : Nat) : Int), 3) := by unfold beg; rw [if_neg h1, if_neg h2, if_neg h3, if_pos h4]
    rw [he]; clear he
    have ha := and15 b hb
    go_enter Tryd.func53, Tryd.ntmps53
    go_wp2
    go_ret2
    exact ⟨rfl, rfl⟩
  by_cases h5 : b < 248
  · have he : beg b = (((b % 8 : Nat) : Int), 4) := by unfold beg; rw [if_neg h1, if_neg h2, if_neg h3, if_neg h4, if_pos h5]
    rw [he]; clear he
    have ha := and7 b hb
    go_enter Tryd.func53, Tryd.ntmps53
    go_wp2
    go_ret2
    exact ⟨rfl, rfl⟩
  · have he : beg b = (0, 0) := by unfold beg; rw [if_neg h1, if_neg h2, if_neg h3, if_neg h4, if_neg h5]
    rw [he]; clear he
    go_enter Tryd.func53, Tryd.ntmps53
    go_wp2
    go_ret2
    exact ⟨rfl, rfl⟩
theorem i32_or_nat (a b : Nat) (ha : a < 2147483648) (hb : b < 2147483648) : bits .or .i32 (a : Int) (b : Int) = ((a ||| b : Nat) : Int) := by
  have hx : a ||| b < 2 ^ 31 := Nat.or_lt_two_pow (by omega) (by omega)
  show IntKind.i32.wrap ((BitVec.ofInt 32 (a : Int) ||| BitVec.ofInt 32 (b : Int)).toNat : Int) = _
  rw [BitVec.toNat_or, ofInt_u32 a (by omega), ofInt_u32 b (by omega)]
  simp [IntKind.wrap, IntKind.bits, IntKind.signed]
  omega
theorem i32_and_nat (a b : Nat) (ha : a < 2147483648) (hb : b < 2147483648) : bits .and .i32 (a : Int) (b : Int) = ((a &&& b : Nat) : Int) := by
  have hx : a &&& b < 2 ^ 31 := Nat.and_lt_two_pow _ (by omega)
  show IntKind.i32.wrap ((BitVec.ofInt 32 (a : Int) &&& BitVec.ofInt 32 (b : Int)).toNat : Int) = _
  rw [BitVec.toNat_and, ofInt_u32 a (by omega), ofInt_u32 b (by omega)]
  simp [IntKind.wrap, IntKind.bits, IntKind.signed]
  omega
theorem or64 (r c : Nat) (hr : r < 524288) (hc : c < 64) : bits .or .i32 ((r : Int) * 64) (c : Int) = (r : Int) * 64 + (c : Int) := by
  have e : ((r : Int) * 64) = ((r * 64 : Nat) : Int) := by omega
  rw [e, i32_or_nat _ _ (by omega) (by omega), nat_join 6 (r * 64) c (by omega) (by omega)]
  omega
def nxAt (s : ByteArray) (x : Int) : Int × Nat := if x < 0 then (0, 0) else nx (s.data.toList.drop x.toNat)
theorem nxAt_cons (s : ByteArray) (k : Nat) (h : k < s.size) : s.data.toList.drop k = s[k] :: s.data.toList.drop (k + 1) := by
  rw [List.drop_eq_getElem_cons (by rw [size_toList]; exact h), str_at s k h]
theorem nxAt_out {s : ByteArray} {x : Int} (h : x < 0 ∨ (s.size : Int) ≤ x) : nxAt s x = (0, 0) := by
  unfold nxAt
  by_cases h1 : x < 0
  · rw [if_pos h1]
  · rw [if_neg h1, List.drop_of_length_le (by rw [size_toList]; omega)]
    rfl
/-- what is left to read, tail by tail -/
def Tl (s : ByteArray) (k n : Nat) (r : Int) (i : Nat) : Prop :=
  tails (s.data.toList.drop (k + 1)) (n - 1) (beg (s.data.toList.getD k 0).toNat).1 = tails (s.data.toList.drop (k + i)) (n - i) r
theorem Tl.step {s : ByteArray} {k n i : Nat} {r : Int} (h : Tl s k n r i) (hi : i < n) (hk : k + i < s.size) (hb : s[k + i].toNat / 64 = 2) : Tl s k n (r * 64 + ((s[k + i].toNat % 64 : Nat) : Int)) (i + 1) := by
  unfold Tl at h ⊢
  rw [h, nxAt_cons s (k + i) hk, show n - i = (n - (i + 1)) + 1 by omega]
  simp only [tails]
  rw [if_pos hb]
  rfl
theorem Tl.stop {s : ByteArray} {k n i : Nat} {r : Int} (h : Tl s k n r i) (hi : i < n) (hk : k + i < s.size) (hb : ¬ s[k + i].toNat / 64 = 2) : tails (s.data.toList.drop (k + 1)) (n - 1) (beg (s.data.toList.getD k 0).toNat).1 = none := by
  unfold Tl at h
  rw [h, nxAt_cons s (k + i) hk, show n - i = (n - (i + 1)) + 1 by omega]
  simp only [tails]
  rw [if_neg hb]
theorem Tl.done {s : ByteArray} {k n i : Nat} {r : Int} (h : Tl s k n r i) (hi : n ≤ i) : tails (s.data.toList.drop (k + 1)) (n - 1) (beg (s.data.toList.getD k 0).toNat).1 = some r := by
  unfold Tl at h
  rw [h, show n - i = 0 by omega]
  cases s.data.toList.drop (k + i) <;> rfl
theorem getD_at (s : ByteArray) (k : Nat) (h : k < s.size) : s.data.toList.getD k 0 = s[k] := by
  rw [List.getD_eq_getElem?_getD, List.getElem?_eq_getElem (by rw [size_toList]; exact h), Option.getD_some, str_at s k h]
theorem nxAt_in {s : ByteArray} {k : Nat} (h : k < s.size) : nxAt s (k : Int) =
    (if (beg s[k].toNat).2 > s.size - k then (0, 0) else
      match tails (s.data.toList.drop (k + 1)) ((beg s[k].toNat).2 - 1) (beg (s.data.toList.getD k 0).toNat).1 with
      | none => (0, 0)
      | some r => if (beg s[k].toNat).2 = sz r then (r, (beg s[k].toNat).2) else (0, 0)) := by
  unfold nxAt
  rw [if_neg (by omega), getD_at s k h]
  simp only [Int.toNat_natCast]
  rw [nxAt_cons s k h]
  simp only [nx]
  have e : (s[k] :: s.data.toList.drop (k + 1)).length = s.size - k := by
    rw [List.length_cons, List.length_drop, size_toList]
    omega
  rw [e]
  rfl
theorem beg_le (b : Nat) : (beg b).2 ≤ 4 := by
  unfold beg
  split
  · simp
  · split
    · simp
    · split
      · simp
      · split
        · simp
        · split <;> simp
theorem beg_bound (b : Nat) : 0 ≤ (beg b).1 ∧ (beg b).1 < 128 := by
  unfold beg
  split
  · simp only; omega
  · split
    · simp
    · split
      · simp only; omega
      · split
        · simp only; omega
        · split
          · simp only; omega
          · simp
theorem pow_step {i r c : Nat} (hi : i < 4) (hr : r < 2 * 64 ^ i) (hc : c < 64) : r * 64 + c < 2 * 64 ^ (i + 1) ∧ r < 524288 := by
  rw [Nat.pow_succ]
  have : 64 ^ i ≤ 64 ^ 3 := Nat.pow_le_pow_right (by omega) (by omega)
  omega

set_option maxRecDepth 100000 in
set_option maxHeartbeats 1000000 in
theorem next_any (s : ByteArray) (x : Int) (w : World) (hs : s.size ≤ 140737488355328) :
    Calls Tryd.prog 41 #[.string s, .int .i64 x] w fun e w' => e = .returned (.tuple #[.int .i32 (nxAt s x).1, .int .i64 ((nxAt s x).2 : Int)]) ∧ w = w' := by
  by_cases g1 : x < 0
  · have HV := Lib.hid (nxAt_out (s := s) (.inl g1))
    go_enter Tryd.func41, Tryd.ntmps41
    go_wp2
    go_ret2
    exact ⟨by rw [HV.out]; rfl, rfl⟩
  by_cases g2 : (s.size : Int) ≤ x
  · have HV := Lib.hid (nxAt_out (s := s) (.inr g2))
    go_enter Tryd.func41, Tryd.ntmps41
    go_wp2
    go_ret2
    exact ⟨by rw [HV.out]; rfl, rfl⟩
  obtain ⟨k, rfl⟩ := Int.eq_ofNat_of_zero_le (show 0 ≤ x by omega)
  have hk : k < s.size := by omega
  have hb := UInt8.toNat_lt s[k]
  have HB := Lib.hid (beginning_any s[k].toNat (by simpa using hb))
  have HV := Lib.hid (nxAt_in hk)
  have hle := beg_le s[k].toNat
  obtain ⟨hr0, hr1⟩ := beg_bound s[k].toNat
  have HT : Hid (Tl s k (beg s[k].toNat).2 (beg s[k].toNat).1 1) := Lib.hid (by unfold Tl; rw [getD_at s k hk])
  generalize beg s[k].toNat = rn at *
  obtain ⟨r0, n⟩ := rn
  simp only at hle hr0 hr1
  obtain ⟨r, rfl⟩ := Int.eq_ofNat_of_zero_le hr0
  by_cases g3 : n > s.size - k
  · go_enter Tryd.func41, Tryd.ntmps41
    go_wp2_with (go_at_call 53; refine (HB.out _).mono ?_; rintro e w' ⟨rfl, rfl⟩)
    go_ret2
    exact ⟨by rw [HV.out, if_pos g3]; rfl, rfl⟩
  · go_enter Tryd.func41, Tryd.ntmps41
    go_wp2_with (go_at_call 53; refine (HB.out _).mono ?_; rintro e w' ⟨rfl, rfl⟩)
    go_loop [6, 8] (fun a i => ∃ j q : Nat, 1 ≤ j ∧ (j ≤ n ∨ j = 1) ∧ i = .int .i64 j ∧ a = .int .i32 q ∧ Hid (q < 2 * 64 ^ j) ∧ Hid (Tl s k n q j)) (fun _ i => n - (intOf i).toNat)
    case atStart => exact ⟨1, r, Nat.le_refl _, .inr rfl, rfl, rfl, Lib.hid (by show r < 2 * 64 ^ 1; omega), HT⟩
    case round =>
      obtain ⟨j, q, hj1, hj2, rfl, rfl, hq, hT⟩ := hrel
      by_cases h1 : j < n
      · have hkj : k + j < s.size := by omega
        have hc := UInt8.toNat_lt s[k + j]
        have hst := pow_step (i := j) (r := q) (c := s[k + j].toNat % 64) (by omega) hq.out (by omega)
        have HQ := Lib.hid hst.1
        have hq2 := hst.2
        clear hst hq
        have ha2 := and63 s[k + j].toNat (by simpa using hc)
        by_cases hb2 : s[k + j].toNat / 64 = 2
        · have HS := Lib.hid (hT.out.step h1 hkj hb2)
          have ha : bits .and .u8 (s[k + j].toNat : Int) 192 = 128 := by rw [and192 s[k + j].toNat (by simpa using hc), hb2]; rfl
          have ho := or64 q (s[k + j].toNat % 64) hq2 (by omega)
          have hc2 : s[k + j].toNat % 64 < 64 := by omega
          generalize s[k + j].toNat % 64 = c at *
          clear hT hb2
          go_wp2
          go_round
          case rel => exact ⟨j + 1, q * 64 + c, by omega, by omega, by go_num, by go_num, HQ, HS⟩
          case measure => simp [intOf]; omega
        · have HS := Lib.hid (hT.out.stop h1 hkj hb2)
          have ha : bits .and .u8 (s[k + j].toNat : Int) 192 = ((s[k + j].toNat / 64 * 64 : Nat) : Int) := and192 s[k + j].toNat (by simpa using hc)
          have hne : ((s[k + j].toNat / 64 * 64 : Nat) : Int) ≠ 128 := by omega
          generalize s[k + j].toNat / 64 * 64 = y2 at *
          have hne2 : ((y2 : Int) != 128) = true := bne_iff_ne.2 hne
          clear hT hb2
          go_wp2
          go_ret2
          exact ⟨by rw [HV.out, if_neg g3, HS.out]; rfl, rfl⟩
      · have HS := Lib.hid (hT.out.done (by omega))
        by_cases h2 : n = sz (q : Int)
        · go_wp2_with (go_at_call 54; refine (size_any _ _).mono ?_; rintro e w' ⟨rfl, rfl⟩)
          go_ret2
          exact ⟨by rw [HV.out, if_neg g3, HS.out]; simp [← h2], rfl⟩
        · go_wp2_with (go_at_call 54; refine (size_any _ _).mono ?_; rintro e w' ⟨rfl, rfl⟩)
          go_ret2
          exact ⟨by rw [HV.out, if_neg g3, HS.out]; simp [h2], rfl⟩
/-- where a text is no runes -/
def bad (s : ByteArray) : Int := badAt s.data.toList 0
theorem nxAt_nat (s : ByteArray) (k : Nat) : nxAt s (k : Int) = nx (s.data.toList.drop k) := by
  unfold nxAt
  rw [if_neg (by omega)]
  rfl
theorem bad_end {s : ByteArray} {k : Nat} (h : Hid (bad s = badAt s.data.toList k)) (hk : s.size ≤ k) : bad s = -1 := by rw [h.out, badAt_end (by rw [size_toList]; exact hk)]
theorem bad_here {s : ByteArray} {k : Nat} (h : Hid (bad s = badAt s.data.toList k)) (hk : k < s.size) (h0 : (nxAt s (k : Int)).2 = 0) : bad s = k := by
  rw [nxAt_nat] at h0
  rw [h.out, badAt_here (by rw [size_toList]; exact hk) h0]
theorem bad_on {s : ByteArray} {k : Nat} (h : Hid (bad s = badAt s.data.toList k)) (hk : k < s.size) (h0 : (nxAt s (k : Int)).2 ≠ 0) : Hid (bad s = badAt s.data.toList (k + (nxAt s (k : Int)).2)) := by
  rw [nxAt_nat] at h0 ⊢
  exact Lib.hid (by rw [h.out, badAt_on (by rw [size_toList]; exact hk) h0])
theorem nxAt_le (s : ByteArray) (k : Nat) : (nxAt s (k : Int)).2 ≤ 4 ∧ (nxAt s (k : Int)).2 ≤ s.size - k := by
  rw [nxAt_nat]
  have := nx_le (s.data.toList.drop k)
  rw [List.length_drop, size_toList] at this
  exact ⟨this.2, this.1⟩

end Go.Proofs.YtnmailhlncchmaaDoor
