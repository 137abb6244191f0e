/-
  What is proved: contracts of the document's digit, number and reference. Conditions: those in each statement.
-/
import Derived.Test.YtbokcihlbpeagaaGreatDoorNb
namespace Go.Proofs.YtbokcihlbpeagaaGreatDoor
open Go.RowKit

def dgV (B c : Nat) : Int := match digv B c with
  | some d => (d : Int)
  | none => -1
set_option maxRecDepth 100000 in
theorem dDigit_any (c B : Nat) (_hc : c < 256) (hB : B = 10 ∨ B = 16) (w : World) :
    Calls Tryz.prog 83 #[.int .u8 (c : Int), .int .i64 (B : Int)] w fun e w' => e = .returned (.int .i64 (dgV B c)) ∧ w = w' := by
  by_cases h1 : 48 ≤ c ∧ c ≤ 57
  · have a1 : (48 : Int) ≤ (c : Int) := by omega
    have b1 : (c : Int) ≤ 57 := by omega
    have a2 : ¬ (97 : Int) ≤ (c : Int) := by omega
    have a3 : ¬ (65 : Int) ≤ (c : Int) := by omega
    rcases hB with rfl | rfl
    · have hw : wrap64 ((c : Int) - 48) = (c : Int) - 48 := Go.IntWalk.wrap64_in _ (by omega)
      have hg : ¬ (10 : Int) ≤ (c : Int) - 48 := by omega
      have hv : dgV 10 c = (c : Int) - 48 := by unfold dgV digv; rw [if_pos h1]; simp only; rw [if_pos (show c - 48 < 10 by omega)]; simp only; omega
      rw [hv]
      clear hv
      go_enter Tryz.func83, Tryz.ntmps83
      go_wp2
      go_ret
      exact ⟨rfl, rfl⟩
    · have hw : wrap64 ((c : Int) - 48) = (c : Int) - 48 := Go.IntWalk.wrap64_in _ (by omega)
      have hg : ¬ (16 : Int) ≤ (c : Int) - 48 := by omega
      have hv : dgV 16 c = (c : Int) - 48 := by unfold dgV digv; rw [if_pos h1]; simp only; rw [if_pos (show c - 48 < 16 by omega)]; simp only; omega
      rw [hv]
      clear hv
      go_enter Tryz.func83, Tryz.ntmps83
      go_wp2
      go_ret
      exact ⟨rfl, rfl⟩
  by_cases h2 : 97 ≤ c ∧ c ≤ 102
  · have b1 : ¬ (c : Int) ≤ 57 := by omega
    have a1 : (48 : Int) ≤ (c : Int) := by omega
    have a2 : (97 : Int) ≤ (c : Int) := by omega
    have b2 : (c : Int) ≤ 102 := by omega
    have a3 : (65 : Int) ≤ (c : Int) := by omega
    have b3 : ¬ (c : Int) ≤ 70 := by omega
    rcases hB with rfl | rfl
    · have hw : wrap64 ((c : Int) - 87) = (c : Int) - 87 := Go.IntWalk.wrap64_in _ (by omega)
      have hg : (10 : Int) ≤ (c : Int) - 87 := by omega
      have hv : dgV 10 c = -1 := by unfold dgV digv; rw [if_neg h1, if_pos h2]; simp only; rw [if_neg (show ¬ c - 87 < 10 by omega)]
      rw [hv]
      clear hv
      go_enter Tryz.func83, Tryz.ntmps83
      go_wp2
      go_ret
      exact ⟨rfl, rfl⟩
    · have hw : wrap64 ((c : Int) - 87) = (c : Int) - 87 := Go.IntWalk.wrap64_in _ (by omega)
      have hg : ¬ (16 : Int) ≤ (c : Int) - 87 := by omega
      have hv : dgV 16 c = (c : Int) - 87 := by unfold dgV digv; rw [if_neg h1, if_pos h2]; simp only; rw [if_pos (show c - 87 < 16 by omega)]; simp only; omega
      rw [hv]
      clear hv
      go_enter Tryz.func83, Tryz.ntmps83
      go_wp2
      go_ret
      exact ⟨rfl, rfl⟩
  by_cases h3 : 65 ≤ c ∧ c ≤ 70
  · have b1 : ¬ (c : Int) ≤ 57 := by omega
    have a1 : (48 : Int) ≤ (c : Int) := by omega
    have a2 : ¬ (97 : Int) ≤ (c : Int) := by omega
    have a3 : (65 : Int) ≤ (c : Int) := by omega
    have b3 : (c : Int) ≤ 70 := by omega
    rcases hB with rfl | rfl
    · have hw : wrap64 ((c : Int) - 55) = (c : Int) - 55 := Go.IntWalk.wrap64_in _ (by omega)
      have hg : (10 : Int) ≤ (c : Int) - 55 := by omega
      have hv : dgV 10 c = -1 := by unfold dgV digv; rw [if_neg h1, if_neg h2, if_pos h3]; simp only; rw [if_neg (show ¬ c - 55 < 10 by omega)]
      rw [hv]
      clear hv
      go_enter Tryz.func83, Tryz.ntmps83
      go_wp2
      go_ret
      exact ⟨rfl, rfl⟩
    · have hw : wrap64 ((c : Int) - 55) = (c : Int) - 55 := Go.IntWalk.wrap64_in _ (by omega)
      have hg : ¬ (16 : Int) ≤ (c : Int) - 55 := by omega
      have hv : dgV 16 c = (c : Int) - 55 := by unfold dgV digv; rw [if_neg h1, if_neg h2, if_pos h3]; simp only; rw [if_pos (show c - 55 < 16 by omega)]; simp only; omega
      rw [hv]
      clear hv
      go_enter Tryz.func83, Tryz.ntmps83
      go_wp2
      go_ret
      exact ⟨rfl, rfl⟩
  have hv : dgV B c = -1 := by unfold dgV digv; rw [if_neg h1, if_neg h2, if_neg h3]; simp only; rw [if_neg (show ¬ 99 < B by omega)]
  rw [hv]
  have e1 : (decide ((48 : Int) ≤ (c : Int)) && decide ((c : Int) ≤ 57)) = false := by rw [Bool.and_eq_false_iff]; rcases Nat.lt_or_ge c 48 with h | h; exact .inl (decide_eq_false (by omega)); exact .inr (decide_eq_false (by omega))
  have hg : ¬ (B : Int) ≤ -1 := by omega
  have hcs : (¬ (48 : Int) ≤ (c : Int)) ∨ ((48 : Int) ≤ (c : Int) ∧ ¬ (c : Int) ≤ 57 ∧ ¬ (65 : Int) ≤ (c : Int) ∧ ¬ (97 : Int) ≤ (c : Int)) ∨ ((48 : Int) ≤ (c : Int) ∧ ¬ (c : Int) ≤ 57 ∧ (65 : Int) ≤ (c : Int) ∧ ¬ (c : Int) ≤ 70 ∧ ¬ (97 : Int) ≤ (c : Int)) ∨ ((48 : Int) ≤ (c : Int) ∧ ¬ (c : Int) ≤ 57 ∧ (65 : Int) ≤ (c : Int) ∧ ¬ (c : Int) ≤ 70 ∧ (97 : Int) ≤ (c : Int) ∧ ¬ (c : Int) ≤ 102) := by omega
  clear hv h1 h2 h3 e1 hB
  rcases hcs with x1 | ⟨x1, x2, x3, x4⟩ | ⟨x1, x2, x3, x4, x5⟩ | ⟨x1, x2, x3, x4, x5, x6⟩
  · have x2 : ¬ (65 : Int) ≤ (c : Int) := by omega
    have x3 : ¬ (97 : Int) ≤ (c : Int) := by omega
    go_enter Tryz.func83, Tryz.ntmps83
    go_wp2
    go_ret
    exact ⟨rfl, rfl⟩
  all_goals
    go_enter Tryz.func83, Tryz.ntmps83
    go_wp2
    go_ret
    exact ⟨rfl, rfl⟩
theorem numA_lt' {B : Nat} (hB : B ≤ 16) : ∀ (l : List UInt8) (a n : Nat), numA B a l = some n → ∀ k, a < B ^ k → n < B ^ (k + l.length) := fun l a n h k ha => numA_lt hB l a k n h ha
set_option maxHeartbeats 1000000 in
set_option maxRecDepth 100000 in
theorem dNumber_any (t : ByteArray) (B : Nat) (hB : B = 10 ∨ B = 16) (w : World) :
    Calls Tryz.prog 66 #[.string t, .int .i64 (B : Int)] w fun e w' => e = .returned (.int .i64 (numR B t.data.toList)) ∧ w = w' := by
  by_cases h0 : t.size < 1
  · have hz : (t.size : Int) < 1 := by omega
    have hv : numR B t.data.toList = -1 := by unfold numR; rw [if_pos (.inl (List.eq_nil_of_length_eq_zero (by rw [size_toList]; omega)))]
    rw [hv]
    clear hv
    go_enter Tryz.func66, Tryz.ntmps66
    go_wp2
    go_ret
    exact ⟨rfl, rfl⟩
  have hz0 : ¬ (t.size : Int) < 1 := by omega
  by_cases h8 : 8 < t.size
  · have hz : (8 : Int) < (t.size : Int) := by omega
    have hv : numR B t.data.toList = -1 := by unfold numR; rw [if_pos (.inr (by rw [size_toList]; omega))]
    rw [hv]
    clear hv
    go_enter Tryz.func66, Tryz.ntmps66
    go_wp2
    go_ret
    exact ⟨rfl, rfl⟩
  have hz8 : ¬ (8 : Int) < (t.size : Int) := by omega
  have HV : Hid (numR B t.data.toList = match numA B 0 t.data.toList with
      | some n => if isC (n : Int) then (n : Int) else -1
      | none => -1) := Lib.hid (by
    unfold numR
    rw [if_neg (by rintro (e | e); have := size_toList t; rw [e] at this; simp at this; omega; rw [size_toList] at e; omega)]
    cases numA B 0 t.data.toList <;> rfl)
  have HB := Lib.hid hB
  have hB16 : B ≤ 16 := by omega
  have hB1 : 1 ≤ B := by omega
  have h9 : t.size ≤ 8 := by omega
  generalize numR B t.data.toList = Z at *
  clear hB h0 h8
  go_enter Tryz.func66, Tryz.ntmps66
  go_wp2
  go_loopg [5, 6, 7] t.size (fun kx v5 v6 _ wr => ∃ (i a : Nat), v5 = .int .i64 (a : Int) ∧ v6 = .int .i64 (i : Int) ∧ i ≤ t.size ∧ t.size - i ≤ kx ∧ Aside (a < B ^ i) ∧ Aside (numA B 0 t.data.toList = numA B a (t.data.toList.drop i)) ∧ Aside (w = wr))
  case atStart => exact ⟨0, 0, rfl, rfl, Nat.zero_le _, by omega, (by show (0 : Nat) < _; simp : Aside _), rfl, rfl⟩
  case round =>
    obtain ⟨i, a, rfl, rfl, hi, hkx, HA, HI, HW⟩ := hrel
    have ha : a < 4294967296 := Nat.lt_of_lt_of_le HA (pow_small hB16 hB1 (by omega))
    by_cases hlt : i < t.size
    · have hltz : (i : Int) < (t.size : Int) := by omega
      have pi : (0 : Int) ≤ (i : Int) := by omega
      have HD := Lib.hid (fun W => dDigit_any t[i].toNat B (UInt8.toNat_lt _) HB.out W)
      have hcons := nxAt_cons t i hlt
      have HI2 : numA B 0 t.data.toList = numA B a (t[i] :: t.data.toList.drop (i + 1)) := by rw [← hcons]; exact HI
      cases hd : digv B t[i].toNat with
      | none =>
        have hv : dgV B t[i].toNat = -1 := by unfold dgV; rw [hd]
        have HE : Hid (Z = -1) := Lib.hid (by
          rw [HV.out, HI2, numA, hd])
        rw [hv] at HD
        clear hv hd HI HI2 hcons HA
        go_wp2_with (go_at_call 83; refine (HD.out _).mono ?_; rintro e w2 ⟨rfl, rfl⟩)
        go_ret
        exact ⟨by rw [HE.out]; rfl, HW⟩
      | some d =>
        have hv : dgV B t[i].toNat = (d : Int) := by unfold dgV; rw [hd]
        have hdl := digv_lt hd
        have HN : Aside (numA B 0 t.data.toList = numA B (a * B + d) (t.data.toList.drop (i + 1))) := by
          show _ = _
          rw [HI2, numA, hd]
        have HA2 : Aside (a * B + d < B ^ (i + 1)) := pow_acc hB16 HA hdl
        have hb2 : a * B + d < 4294967296 := Nat.lt_of_lt_of_le HA2 (pow_small hB16 hB1 (by omega))
        have hw1 : wrap64 ((a : Int) * (B : Int)) = ((a * B : Nat) : Int) := by
          rw [← Int.natCast_mul]; exact Go.IntWalk.wrap64_in _ (by omega)
        have hw2 : wrap64 (((a * B : Nat) : Int) + (d : Int)) = ((a * B + d : Nat) : Int) := by
          rw [← Int.natCast_add]; exact Go.IntWalk.wrap64_in _ (by omega)
        have hd0 : ¬ (d : Int) < 0 := Int.not_lt.2 (Int.natCast_nonneg d)
        rw [hv] at HD
        clear hv hd HI HI2 hcons HA ha
        generalize hm : a * B = m at *
        clear hm
        generalize hn : m + d = n at *
        clear hn
        go_wp2_with (go_at_call 83; refine (HD.out _).mono ?_; rintro e w2 ⟨rfl, rfl⟩)
        go_roundg (t.size - (i + 1))
        case measure => omega
        case rel => exact ⟨i + 1, n, by first | rfl | (congr 1; done) | (simp only [hw1, hw2]), by go_num, hlt, Nat.le_refl _, HA2, HN, HW⟩
    · obtain rfl : i = t.size := by omega
      have hltz : ¬ (t.size : Int) < (t.size : Int) := by omega
      have hN : numA B 0 t.data.toList = some a := by
        have h1 : numA B 0 t.data.toList = numA B a (t.data.toList.drop t.size) := HI
        rw [h1, List.drop_of_length_le (by rw [size_toList]; omega)]; rfl
      have HE : Hid (Z = if isC (a : Int) then (a : Int) else -1) := Lib.hid (by rw [HV.out, hN])
      clear hN HI HA
      by_cases hm : a ≤ 1114111
      · have hmz : ¬ (1114111 : Int) < (a : Int) := by omega
        have hw : IntKind.i32.wrap (a : Int) = (a : Int) := Go.IntWalk.i32_in _ ⟨by omega, by omega⟩
        by_cases hc : isC (a : Int)
        · rw [if_pos hc] at HE
          have HC := Lib.hid (fun W => refChar_is (a : Int) true (decide_eq_true hc).symm W)
          clear hc
          go_wp2_with (go_at_call 17; refine (HC.out _).mono ?_; rintro e w2 ⟨rfl, rfl⟩)
          go_ret
          exact ⟨by rw [HE.out]; rfl, HW⟩
        · rw [if_neg hc] at HE
          have HC := Lib.hid (fun W => refChar_is (a : Int) false (decide_eq_false hc).symm W)
          clear hc
          go_wp2_with (go_at_call 17; refine (HC.out _).mono ?_; rintro e w2 ⟨rfl, rfl⟩)
          go_ret
          exact ⟨by rw [HE.out]; rfl, HW⟩
      · have hmz : (1114111 : Int) < (a : Int) := by omega
        rw [if_neg (by rw [isC_iff]; omega)] at HE
        go_wp2
        go_ret
        exact ⟨by rw [HE.out]; rfl, HW⟩

/-- a reference's text and where it ends -/
def refT (k : Nat) (o : Out (List UInt8)) : List UInt8 × Nat := match o with
  | .ok t n => (t, k + n)
  | _ => ([], 0)
theorem tl_cons {s : ByteArray} {k : Nat} (hk : k < s.size) : tl s k = s[k] :: tl s (k + 1) := nxAt_cons s k hk
theorem hd_tl {s : ByteArray} {k : Nat} (hk : k < s.size) : hd (tl s k) = s[k].toNat := by rw [tl_cons hk]; rfl
/-- the bytes between the & and the ; -/
theorem body_is {s : ByteArray} {k j : Nat} (hk : k < s.size) (h38 : hd (tl s k) = 38) (hj : 1 ≤ j) : (tl s k).take j = 38 :: (s.extract (k + 1) (k + j)).data.toList := by
  rw [hd_tl hk] at h38
  have e : s[k] = 38 := UInt8.toNat_inj.1 h38
  obtain ⟨i, rfl⟩ : ∃ i, j = i + 1 := ⟨j - 1, by omega⟩
  rw [tl_cons hk, e, List.take_succ_cons, Lib.extract_data]
  congr 2
  omega
theorem semi_pos {s : ByteArray} {k : Nat} (hk : k < s.size) (h38 : hd (tl s k) = 38) (h : 0 ≤ Lib.index (tl s k) [59]) : 1 ≤ (Lib.index (tl s k) [59]).toNat := by
  rcases Lib.index_spec (tl s k) [59] with ⟨h1, _⟩ | ⟨i, h1, _, h2, _⟩
  · omega
  · rw [h1]
    rcases Nat.eq_zero_or_pos i with rfl | hi
    · rw [hd_tl hk] at h38
      unfold Lib.occAt at h2
      rw [List.drop_zero, tl_cons hk] at h2
      simp only [List.isPrefixOf, Bool.and_true, beq_iff_eq] at h2
      rw [← h2] at h38
      exact absurd h38 (by decide)
    · omega
theorem refO_R {s : ByteArray} {k : Nat} (hk : k < s.size) (h38 : hd (tl s k) = 38) (h : 0 ≤ Lib.index (tl s k) [59]) :
    refO (tl s k) = if meanR (s.extract (k + 1) (k + (Lib.index (tl s k) [59]).toNat)).data.toList ≠ [] then .ok (meanR (s.extract (k + 1) (k + (Lib.index (tl s k) [59]).toNat)).data.toList) ((Lib.index (tl s k) [59]).toNat + 1) else .bad 0 83 := by
  unfold refO
  rw [body_is hk h38 (semi_pos hk h38 h), mean_R]
  by_cases hm : meanR (s.extract (k + 1) (k + (Lib.index (tl s k) [59]).toNat)).data.toList ≠ []
  · rw [if_pos ⟨h, hm⟩, if_pos hm]
  · rw [if_neg (fun e => hm e.2), if_neg hm]
set_option maxRecDepth 100000 in
theorem dRef_none (s : ByteArray) (k : Nat) (hk : k < s.size) (hs : s.size ≤ 65536) (h : ¬ 0 ≤ Lib.index (tl s k) [59]) (w : World) :
    Calls Tryz.prog 47 #[.string s, .int .i64 (k : Int)] w fun e w' => e = .returned (.tuple #[.string ⟨(refT k (refO (tl s k))).1.toArray⟩, .int .i64 ((refT k (refO (tl s k))).2 : Int)]) ∧ Below w.heap.size w w' := by
  have hr : refO (tl s k) = .bad 0 83 := by unfold refO; rw [if_neg (fun e => h e.1)]
  have hz : findV s ⟨#[59]⟩ k = -1 := by
    have := Lib.index_ge (tl s k) [59]
    unfold findV
    rw [if_pos (by show Lib.index (tl s k) [59] = -1; omega)]
  have HF := Lib.hid (dFind_any s ⟨#[59]⟩ k (-1) hz (by omega) hs (by show 1 ≤ 65536; omega) (by show 1 ≤ 1; omega))
  rw [hr]
  clear hr hz h
  go_enter Tryz.func47, Tryz.ntmps47
  go_wp2_with (go_at_call 25; refine (HF.out _).mono ?_; rintro e w2 ⟨rfl, rfl⟩)
  go_ret2
  exact ⟨rfl, Below.refl _ _⟩
/-- what a reference answers, when its end and its bytes are known -/
def RefQ (s : ByteArray) (k E : Nat) (t : List UInt8) : Prop := ∀ w : World,
    Calls Tryz.prog 47 #[.string s, .int .i64 (k : Int)] w fun e w' => e = .returned (.tuple #[.string ⟨t.toArray⟩, .int .i64 ((if t = [] then 0 else E + 1 : Nat) : Int)]) ∧ Below w.heap.size w w'
set_option maxRecDepth 100000 in
theorem dRef_n0 (s X : ByteArray) (k E : Nat) (hk : k < s.size) (hs : s.size ≤ 65536) (hz : findV s ⟨#[59]⟩ k = (E : Int)) (h1 : k + 1 ≤ E) (h2 : E ≤ s.size) (hX : s.extract (k + 1) E = X) (hl : X.toList = [108, 116]) : RefQ s k E [60] := by
  intro w
  have HF := Lib.hid (dFind_any s ⟨#[59]⟩ k (E : Int) hz (by omega) hs (by show 1 ≤ 65536; omega) (by show 1 ≤ 1; omega))
  have hw1 : wrap64 ((k : Int) + 1) = ((k + 1 : Nat) : Int) := by rw [Go.IntWalk.wrap64_in _ (by omega)]; push_cast; rfl
  have hw2 : wrap64 ((E : Int) + 1) = ((E + 1 : Nat) : Int) := by rw [Go.IntWalk.wrap64_in _ (by omega)]; push_cast; rfl
  have hE0 : ¬ (E : Int) < 0 := by omega
  have hE1 : ((k + 1 : Nat) : Int) ≤ (E : Int) := by omega
  have hE2 : (E : Int) ≤ (s.size : Int) := by omega
  have hk1 : (0 : Int) ≤ ((k + 1 : Nat) : Int) := by omega
  have y : (X.toList == ([108, 116] : List UInt8)) = true := by rw [hl]; rfl
  clear hl hz
  go_enter Tryz.func47, Tryz.ntmps47
  go_wp2_with (go_at_call 25; refine (HF.out _).mono ?_; rintro e w2 ⟨rfl, rfl⟩)
  go_ret2
  exact ⟨rfl, Below.refl _ _⟩
set_option maxRecDepth 100000 in
theorem dRef_n1 (s X : ByteArray) (k E : Nat) (hk : k < s.size) (hs : s.size ≤ 65536) (hz : findV s ⟨#[59]⟩ k = (E : Int)) (h1 : k + 1 ≤ E) (h2 : E ≤ s.size) (hX : s.extract (k + 1) E = X) (hl : X.toList = [103, 116]) : RefQ s k E [62] := by
  intro w
  have HF := Lib.hid (dFind_any s ⟨#[59]⟩ k (E : Int) hz (by omega) hs (by show 1 ≤ 65536; omega) (by show 1 ≤ 1; omega))
  have hw1 : wrap64 ((k : Int) + 1) = ((k + 1 : Nat) : Int) := by rw [Go.IntWalk.wrap64_in _ (by omega)]; push_cast; rfl
  have hw2 : wrap64 ((E : Int) + 1) = ((E + 1 : Nat) : Int) := by rw [Go.IntWalk.wrap64_in _ (by omega)]; push_cast; rfl
  have hE0 : ¬ (E : Int) < 0 := by omega
  have hE1 : ((k + 1 : Nat) : Int) ≤ (E : Int) := by omega
  have hE2 : (E : Int) ≤ (s.size : Int) := by omega
  have hk1 : (0 : Int) ≤ ((k + 1 : Nat) : Int) := by omega
  have n0 : (X.toList == ([108, 116] : List UInt8)) = false := by rw [hl]; rfl
  have y : (X.toList == ([103, 116] : List UInt8)) = true := by rw [hl]; rfl
  clear hl hz
  go_enter Tryz.func47, Tryz.ntmps47
  go_wp2_with (go_at_call 25; refine (HF.out _).mono ?_; rintro e w2 ⟨rfl, rfl⟩)
  go_ret2
  exact ⟨rfl, Below.refl _ _⟩
set_option maxRecDepth 100000 in
theorem dRef_n2 (s X : ByteArray) (k E : Nat) (hk : k < s.size) (hs : s.size ≤ 65536) (hz : findV s ⟨#[59]⟩ k = (E : Int)) (h1 : k + 1 ≤ E) (h2 : E ≤ s.size) (hX : s.extract (k + 1) E = X) (hl : X.toList = [97, 109, 112]) : RefQ s k E [38] := by
  intro w
  have HF := Lib.hid (dFind_any s ⟨#[59]⟩ k (E : Int) hz (by omega) hs (by show 1 ≤ 65536; omega) (by show 1 ≤ 1; omega))
  have hw1 : wrap64 ((k : Int) + 1) = ((k + 1 : Nat) : Int) := by rw [Go.IntWalk.wrap64_in _ (by omega)]; push_cast; rfl
  have hw2 : wrap64 ((E : Int) + 1) = ((E + 1 : Nat) : Int) := by rw [Go.IntWalk.wrap64_in _ (by omega)]; push_cast; rfl
  have hE0 : ¬ (E : Int) < 0 := by omega
  have hE1 : ((k + 1 : Nat) : Int) ≤ (E : Int) := by omega
  have hE2 : (E : Int) ≤ (s.size : Int) := by omega
  have hk1 : (0 : Int) ≤ ((k + 1 : Nat) : Int) := by omega
  have n0 : (X.toList == ([108, 116] : List UInt8)) = false := by rw [hl]; rfl
  have n1 : (X.toList == ([103, 116] : List UInt8)) = false := by rw [hl]; rfl
  have y : (X.toList == ([97, 109, 112] : List UInt8)) = true := by rw [hl]; rfl
  clear hl hz
  go_enter Tryz.func47, Tryz.ntmps47
  go_wp2_with (go_at_call 25; refine (HF.out _).mono ?_; rintro e w2 ⟨rfl, rfl⟩)
  go_ret2
  exact ⟨rfl, Below.refl _ _⟩
set_option maxRecDepth 100000 in
theorem dRef_n3 (s X : ByteArray) (k E : Nat) (hk : k < s.size) (hs : s.size ≤ 65536) (hz : findV s ⟨#[59]⟩ k = (E : Int)) (h1 : k + 1 ≤ E) (h2 : E ≤ s.size) (hX : s.extract (k + 1) E = X) (hl : X.toList = [97, 112, 111, 115]) : RefQ s k E [39] := by
  intro w
  have HF := Lib.hid (dFind_any s ⟨#[59]⟩ k (E : Int) hz (by omega) hs (by show 1 ≤ 65536; omega) (by show 1 ≤ 1; omega))
  have hw1 : wrap64 ((k : Int) + 1) = ((k + 1 : Nat) : Int) := by rw [Go.IntWalk.wrap64_in _ (by omega)]; push_cast; rfl
  have hw2 : wrap64 ((E : Int) + 1) = ((E + 1 : Nat) : Int) := by rw [Go.IntWalk.wrap64_in _ (by omega)]; push_cast; rfl
  have hE0 : ¬ (E : Int) < 0 := by omega
  have hE1 : ((k + 1 : Nat) : Int) ≤ (E : Int) := by omega
  have hE2 : (E : Int) ≤ (s.size : Int) := by omega
  have hk1 : (0 : Int) ≤ ((k + 1 : Nat) : Int) := by omega
  have n0 : (X.toList == ([108, 116] : List UInt8)) = false := by rw [hl]; rfl
  have n1 : (X.toList == ([103, 116] : List UInt8)) = false := by rw [hl]; rfl
  have n2 : (X.toList == ([97, 109, 112] : List UInt8)) = false := by rw [hl]; rfl
  have y : (X.toList == ([97, 112, 111, 115] : List UInt8)) = true := by rw [hl]; rfl
  clear hl hz
  go_enter Tryz.func47, Tryz.ntmps47
  go_wp2_with (go_at_call 25; refine (HF.out _).mono ?_; rintro e w2 ⟨rfl, rfl⟩)
  go_ret2
  exact ⟨rfl, Below.refl _ _⟩
set_option maxRecDepth 100000 in
theorem dRef_n4 (s X : ByteArray) (k E : Nat) (hk : k < s.size) (hs : s.size ≤ 65536) (hz : findV s ⟨#[59]⟩ k = (E : Int)) (h1 : k + 1 ≤ E) (h2 : E ≤ s.size) (hX : s.extract (k + 1) E = X) (hl : X.toList = [113, 117, 111, 116]) : RefQ s k E [34] := by
  intro w
  have HF := Lib.hid (dFind_any s ⟨#[59]⟩ k (E : Int) hz (by omega) hs (by show 1 ≤ 65536; omega) (by show 1 ≤ 1; omega))
  have hw1 : wrap64 ((k : Int) + 1) = ((k + 1 : Nat) : Int) := by rw [Go.IntWalk.wrap64_in _ (by omega)]; push_cast; rfl
  have hw2 : wrap64 ((E : Int) + 1) = ((E + 1 : Nat) : Int) := by rw [Go.IntWalk.wrap64_in _ (by omega)]; push_cast; rfl
  have hE0 : ¬ (E : Int) < 0 := by omega
  have hE1 : ((k + 1 : Nat) : Int) ≤ (E : Int) := by omega
  have hE2 : (E : Int) ≤ (s.size : Int) := by omega
  have hk1 : (0 : Int) ≤ ((k + 1 : Nat) : Int) := by omega
  have n0 : (X.toList == ([108, 116] : List UInt8)) = false := by rw [hl]; rfl
  have n1 : (X.toList == ([103, 116] : List UInt8)) = false := by rw [hl]; rfl
  have n2 : (X.toList == ([97, 109, 112] : List UInt8)) = false := by rw [hl]; rfl
  have n3 : (X.toList == ([97, 112, 111, 115] : List UInt8)) = false := by rw [hl]; rfl
  have y : (X.toList == ([113, 117, 111, 116] : List UInt8)) = true := by rw [hl]; rfl
  clear hl hz
  go_enter Tryz.func47, Tryz.ntmps47
  go_wp2_with (go_at_call 25; refine (HF.out _).mono ?_; rintro e w2 ⟨rfl, rfl⟩)
  go_ret2
  exact ⟨rfl, Below.refl _ _⟩
/-- numbers: -1, or a character's -/
theorem numR_ways (B : Nat) (l : List UInt8) : numR B l = -1 ∨ ∃ n : Nat, numR B l = (n : Int) ∧ isC (n : Int) := by
  unfold numR
  split
  · exact .inl rfl
  · cases numA B 0 l with
    | none => exact .inl rfl
    | some n =>
      simp only
      by_cases hc : isC (n : Int)
      · rw [if_pos hc]; exact .inr ⟨n, rfl, hc⟩
      · rw [if_neg hc]; exact .inl rfl
theorem ext_drop (X : ByteArray) (j : Nat) : (X.extract j X.size).data.toList = X.data.toList.drop j := by
  rw [Lib.extract_data, List.take_of_length_le (by rw [List.length_drop, size_toList]; omega)]
set_option maxHeartbeats 1000000 in
set_option maxRecDepth 100000 in
theorem dRef_x (s X : ByteArray) (k E : Nat) (hk : k < s.size) (hs : s.size ≤ 65536) (hz : findV s ⟨#[59]⟩ k = (E : Int)) (h1 : k + 1 ≤ E) (h2 : E ≤ s.size) (hX : s.extract (k + 1) E = X) (n0 : (X.toList == ([108, 116] : List UInt8)) = false) (n1 : (X.toList == ([103, 116] : List UInt8)) = false) (n2 : (X.toList == ([97, 109, 112] : List UInt8)) = false) (n3 : (X.toList == ([97, 112, 111, 115] : List UInt8)) = false) (n4 : (X.toList == ([113, 117, 111, 116] : List UInt8)) = false) (p2 : 2 < X.size) (e0 : X[0].toNat = 35) (e1 : X[1].toNat = 120) : RefQ s k E (put (numR 16 (X.data.toList.drop 2))) := by
  intro w
  have HF := Lib.hid (dFind_any s ⟨#[59]⟩ k (E : Int) hz (by omega) hs (by show 1 ≤ 65536; omega) (by show 1 ≤ 1; omega))
  have hw1 : wrap64 ((k : Int) + 1) = ((k + 1 : Nat) : Int) := by rw [Go.IntWalk.wrap64_in _ (by omega)]; push_cast; rfl
  have hw2 : wrap64 ((E : Int) + 1) = ((E + 1 : Nat) : Int) := by rw [Go.IntWalk.wrap64_in _ (by omega)]; push_cast; rfl
  have hE0 : ¬ (E : Int) < 0 := by omega
  have hE1 : ((k + 1 : Nat) : Int) ≤ (E : Int) := by omega
  have hE2 : (E : Int) ≤ (s.size : Int) := by omega
  have hk1 : (0 : Int) ≤ ((k + 1 : Nat) : Int) := by omega
  have q2 : (2 : Int) < (X.size : Int) := by omega
  have q2b : (2 : Int) ≤ (X.size : Int) := by omega
  have q1 : (1 : Int) < (X.size : Int) := by omega
  have q0 : (0 : Int) < (X.size : Int) := by omega
  have p1 : 1 < X.size := by omega
  have p0 : 0 < X.size := by omega
  have f0 : ((X[0].toNat : Int) == 35) = true := by rw [e0]; rfl
  have f1 : ((X[1].toNat : Int) == 120) = true := by rw [e1]; rfl
  have HN := Lib.hid (fun W => dNumber_any (X.extract 2 X.size) 16 (.inr rfl) W)
  rw [ext_drop] at HN
  clear hz
  rcases numR_ways 16 (X.data.toList.drop 2) with hZ | ⟨n, hZ, hc⟩
  · rw [hZ] at HN ⊢
    clear hZ
    go_enter Tryz.func47, Tryz.ntmps47
    go_wp2_with (first
      | (go_at_call 25; refine (HF.out _).mono ?_; rintro e w2 ⟨rfl, rfl⟩)
      | (go_at_call 66; refine (HN.out _).mono ?_; rintro e w3 ⟨rfl, rfl⟩))
    go_ret2
    exact ⟨rfl, Below.refl _ _⟩
  · rw [hZ] at HN ⊢
    have hn0 : ¬ (n : Int) < 0 := by omega
    have hnw : IntKind.i32.wrap (n : Int) = (n : Int) := Go.IntWalk.i32_in _ (by have := isC_iff.1 hc; omega)
    have HP := Lib.hid (fun W => refPut_any (n : Int) W)
    rw [if_neg (put_ne.2 (isC_iff.1 hc).1)]
    clear hZ hc
    generalize put (n : Int) = P at *
    go_enter Tryz.func47, Tryz.ntmps47
    go_wp2_with (first
      | (go_at_call 25; refine (HF.out _).mono ?_; rintro e w2 ⟨rfl, rfl⟩)
      | (go_at_call 66; refine (HN.out _).mono ?_; rintro e w3 ⟨rfl, rfl⟩)
      | (go_at_call 18; refine (HP.out _).mono ?_; rintro e w4 ⟨A, n4, c4, rfl, hh, hb4⟩; have hcv := conv_hold hh; have HB4 := Lib.hid hb4; clear hh hb4))
    go_ret2
    exact ⟨rfl, HB4.out⟩
set_option maxHeartbeats 1000000 in
set_option maxRecDepth 100000 in
theorem dRef_d2 (s X : ByteArray) (k E : Nat) (hk : k < s.size) (hs : s.size ≤ 65536) (hz : findV s ⟨#[59]⟩ k = (E : Int)) (h1 : k + 1 ≤ E) (h2 : E ≤ s.size) (hX : s.extract (k + 1) E = X) (n0 : (X.toList == ([108, 116] : List UInt8)) = false) (n1 : (X.toList == ([103, 116] : List UInt8)) = false) (n2 : (X.toList == ([97, 109, 112] : List UInt8)) = false) (n3 : (X.toList == ([97, 112, 111, 115] : List UInt8)) = false) (n4 : (X.toList == ([113, 117, 111, 116] : List UInt8)) = false) (p2 : X.size ≤ 2) (p1 : 1 < X.size) (e0 : X[0].toNat = 35) : RefQ s k E (put (numR 10 (X.data.toList.drop 1))) := by
  intro w
  have HF := Lib.hid (dFind_any s ⟨#[59]⟩ k (E : Int) hz (by omega) hs (by show 1 ≤ 65536; omega) (by show 1 ≤ 1; omega))
  have hw1 : wrap64 ((k : Int) + 1) = ((k + 1 : Nat) : Int) := by rw [Go.IntWalk.wrap64_in _ (by omega)]; push_cast; rfl
  have hw2 : wrap64 ((E : Int) + 1) = ((E + 1 : Nat) : Int) := by rw [Go.IntWalk.wrap64_in _ (by omega)]; push_cast; rfl
  have hE0 : ¬ (E : Int) < 0 := by omega
  have hE1 : ((k + 1 : Nat) : Int) ≤ (E : Int) := by omega
  have hE2 : (E : Int) ≤ (s.size : Int) := by omega
  have hk1 : (0 : Int) ≤ ((k + 1 : Nat) : Int) := by omega
  have q2 : ¬ (2 : Int) < (X.size : Int) := by omega
  have q1 : (1 : Int) < (X.size : Int) := by omega
  have q1b : (1 : Int) ≤ (X.size : Int) := by omega
  have q0 : (0 : Int) < (X.size : Int) := by omega
  have p0 : 0 < X.size := by omega
  have f0 : ((X[0].toNat : Int) == 35) = true := by rw [e0]; rfl
  have HN := Lib.hid (fun W => dNumber_any (X.extract 1 X.size) 10 (.inl rfl) W)
  rw [ext_drop] at HN
  clear hz
  rcases numR_ways 10 (X.data.toList.drop 1) with hZ | ⟨n, hZ, hc⟩
  · rw [hZ] at HN ⊢
    clear hZ
    go_enter Tryz.func47, Tryz.ntmps47
    go_wp2_with (first
      | (go_at_call 25; refine (HF.out _).mono ?_; rintro e w2 ⟨rfl, rfl⟩)
      | (go_at_call 66; refine (HN.out _).mono ?_; rintro e w3 ⟨rfl, rfl⟩))
    go_ret2
    exact ⟨rfl, Below.refl _ _⟩
  · rw [hZ] at HN ⊢
    have hn0 : ¬ (n : Int) < 0 := by omega
    have hnw : IntKind.i32.wrap (n : Int) = (n : Int) := Go.IntWalk.i32_in _ (by have := isC_iff.1 hc; omega)
    have HP := Lib.hid (fun W => refPut_any (n : Int) W)
    rw [if_neg (put_ne.2 (isC_iff.1 hc).1)]
    clear hZ hc
    generalize put (n : Int) = P at *
    go_enter Tryz.func47, Tryz.ntmps47
    go_wp2_with (first
      | (go_at_call 25; refine (HF.out _).mono ?_; rintro e w2 ⟨rfl, rfl⟩)
      | (go_at_call 66; refine (HN.out _).mono ?_; rintro e w3 ⟨rfl, rfl⟩)
      | (go_at_call 18; refine (HP.out _).mono ?_; rintro e w4 ⟨A, n4, c4, rfl, hh, hb4⟩; have hcv := conv_hold hh; have HB4 := Lib.hid hb4; clear hh hb4))
    go_ret2
    exact ⟨rfl, HB4.out⟩
set_option maxHeartbeats 1000000 in
set_option maxRecDepth 100000 in
theorem dRef_d (s X : ByteArray) (k E : Nat) (hk : k < s.size) (hs : s.size ≤ 65536) (hz : findV s ⟨#[59]⟩ k = (E : Int)) (h1 : k + 1 ≤ E) (h2 : E ≤ s.size) (hX : s.extract (k + 1) E = X) (n0 : (X.toList == ([108, 116] : List UInt8)) = false) (n1 : (X.toList == ([103, 116] : List UInt8)) = false) (n2 : (X.toList == ([97, 109, 112] : List UInt8)) = false) (n3 : (X.toList == ([97, 112, 111, 115] : List UInt8)) = false) (n4 : (X.toList == ([113, 117, 111, 116] : List UInt8)) = false) (p2 : 2 < X.size) (e0 : X[0].toNat = 35) (e1 : X[1].toNat ≠ 120) : RefQ s k E (put (numR 10 (X.data.toList.drop 1))) := by
  intro w
  have HF := Lib.hid (dFind_any s ⟨#[59]⟩ k (E : Int) hz (by omega) hs (by show 1 ≤ 65536; omega) (by show 1 ≤ 1; omega))
  have hw1 : wrap64 ((k : Int) + 1) = ((k + 1 : Nat) : Int) := by rw [Go.IntWalk.wrap64_in _ (by omega)]; push_cast; rfl
  have hw2 : wrap64 ((E : Int) + 1) = ((E + 1 : Nat) : Int) := by rw [Go.IntWalk.wrap64_in _ (by omega)]; push_cast; rfl
  have hE0 : ¬ (E : Int) < 0 := by omega
  have hE1 : ((k + 1 : Nat) : Int) ≤ (E : Int) := by omega
  have hE2 : (E : Int) ≤ (s.size : Int) := by omega
  have hk1 : (0 : Int) ≤ ((k + 1 : Nat) : Int) := by omega
  have q2 : (2 : Int) < (X.size : Int) := by omega
  have q1 : (1 : Int) < (X.size : Int) := by omega
  have q1b : (1 : Int) ≤ (X.size : Int) := by omega
  have q0 : (0 : Int) < (X.size : Int) := by omega
  have p1 : 1 < X.size := by omega
  have p0 : 0 < X.size := by omega
  have f0 : ((X[0].toNat : Int) == 35) = true := by rw [e0]; rfl
  have f1 : ((X[1].toNat : Int) == 120) = false := beq_eq_false_iff_ne.2 (by omega)
  have HN := Lib.hid (fun W => dNumber_any (X.extract 1 X.size) 10 (.inl rfl) W)
  rw [ext_drop] at HN
  clear hz
  rcases numR_ways 10 (X.data.toList.drop 1) with hZ | ⟨n, hZ, hc⟩
  · rw [hZ] at HN ⊢
    clear hZ
    go_enter Tryz.func47, Tryz.ntmps47
    go_wp2_with (first
      | (go_at_call 25; refine (HF.out _).mono ?_; rintro e w2 ⟨rfl, rfl⟩)
      | (go_at_call 66; refine (HN.out _).mono ?_; rintro e w3 ⟨rfl, rfl⟩))
    go_ret2
    exact ⟨rfl, Below.refl _ _⟩
  · rw [hZ] at HN ⊢
    have hn0 : ¬ (n : Int) < 0 := by omega
    have hnw : IntKind.i32.wrap (n : Int) = (n : Int) := Go.IntWalk.i32_in _ (by have := isC_iff.1 hc; omega)
    have HP := Lib.hid (fun W => refPut_any (n : Int) W)
    rw [if_neg (put_ne.2 (isC_iff.1 hc).1)]
    clear hZ hc
    generalize put (n : Int) = P at *
    go_enter Tryz.func47, Tryz.ntmps47
    go_wp2_with (first
      | (go_at_call 25; refine (HF.out _).mono ?_; rintro e w2 ⟨rfl, rfl⟩)
      | (go_at_call 66; refine (HN.out _).mono ?_; rintro e w3 ⟨rfl, rfl⟩)
      | (go_at_call 18; refine (HP.out _).mono ?_; rintro e w4 ⟨A, n4, c4, rfl, hh, hb4⟩; have hcv := conv_hold hh; have HB4 := Lib.hid hb4; clear hh hb4))
    go_ret2
    exact ⟨rfl, HB4.out⟩
set_option maxRecDepth 100000 in
theorem dRef_o1 (s X : ByteArray) (k E : Nat) (hk : k < s.size) (hs : s.size ≤ 65536) (hz : findV s ⟨#[59]⟩ k = (E : Int)) (h1 : k + 1 ≤ E) (h2 : E ≤ s.size) (hX : s.extract (k + 1) E = X) (n0 : (X.toList == ([108, 116] : List UInt8)) = false) (n1 : (X.toList == ([103, 116] : List UInt8)) = false) (n2 : (X.toList == ([97, 109, 112] : List UInt8)) = false) (n3 : (X.toList == ([97, 112, 111, 115] : List UInt8)) = false) (n4 : (X.toList == ([113, 117, 111, 116] : List UInt8)) = false) (p1 : X.size ≤ 1) : RefQ s k E [] := by
  intro w
  have HF := Lib.hid (dFind_any s ⟨#[59]⟩ k (E : Int) hz (by omega) hs (by show 1 ≤ 65536; omega) (by show 1 ≤ 1; omega))
  have hw1 : wrap64 ((k : Int) + 1) = ((k + 1 : Nat) : Int) := by rw [Go.IntWalk.wrap64_in _ (by omega)]; push_cast; rfl
  have hw2 : wrap64 ((E : Int) + 1) = ((E + 1 : Nat) : Int) := by rw [Go.IntWalk.wrap64_in _ (by omega)]; push_cast; rfl
  have hE0 : ¬ (E : Int) < 0 := by omega
  have hE1 : ((k + 1 : Nat) : Int) ≤ (E : Int) := by omega
  have hE2 : (E : Int) ≤ (s.size : Int) := by omega
  have hk1 : (0 : Int) ≤ ((k + 1 : Nat) : Int) := by omega
  have q2 : ¬ (2 : Int) < (X.size : Int) := by omega
  have q1 : ¬ (1 : Int) < (X.size : Int) := by omega
  clear hz
  go_enter Tryz.func47, Tryz.ntmps47
  go_wp2_with (go_at_call 25; refine (HF.out _).mono ?_; rintro e w2 ⟨rfl, rfl⟩)
  go_ret2
  exact ⟨rfl, Below.refl _ _⟩
set_option maxRecDepth 100000 in
theorem dRef_o2 (s X : ByteArray) (k E : Nat) (hk : k < s.size) (hs : s.size ≤ 65536) (hz : findV s ⟨#[59]⟩ k = (E : Int)) (h1 : k + 1 ≤ E) (h2 : E ≤ s.size) (hX : s.extract (k + 1) E = X) (n0 : (X.toList == ([108, 116] : List UInt8)) = false) (n1 : (X.toList == ([103, 116] : List UInt8)) = false) (n2 : (X.toList == ([97, 109, 112] : List UInt8)) = false) (n3 : (X.toList == ([97, 112, 111, 115] : List UInt8)) = false) (n4 : (X.toList == ([113, 117, 111, 116] : List UInt8)) = false) (p2 : X.size = 2) (e0 : X[0].toNat ≠ 35) : RefQ s k E [] := by
  intro w
  have HF := Lib.hid (dFind_any s ⟨#[59]⟩ k (E : Int) hz (by omega) hs (by show 1 ≤ 65536; omega) (by show 1 ≤ 1; omega))
  have hw1 : wrap64 ((k : Int) + 1) = ((k + 1 : Nat) : Int) := by rw [Go.IntWalk.wrap64_in _ (by omega)]; push_cast; rfl
  have hw2 : wrap64 ((E : Int) + 1) = ((E + 1 : Nat) : Int) := by rw [Go.IntWalk.wrap64_in _ (by omega)]; push_cast; rfl
  have hE0 : ¬ (E : Int) < 0 := by omega
  have hE1 : ((k + 1 : Nat) : Int) ≤ (E : Int) := by omega
  have hE2 : (E : Int) ≤ (s.size : Int) := by omega
  have hk1 : (0 : Int) ≤ ((k + 1 : Nat) : Int) := by omega
  have q2 : ¬ (2 : Int) < (X.size : Int) := by omega
  have q1 : (1 : Int) < (X.size : Int) := by omega
  have q0 : (0 : Int) < (X.size : Int) := by omega
  have p0 : 0 < X.size := by omega
  have f0 : ((X[0].toNat : Int) == 35) = false := beq_eq_false_iff_ne.2 (by omega)
  clear hz
  go_enter Tryz.func47, Tryz.ntmps47
  go_wp2_with (go_at_call 25; refine (HF.out _).mono ?_; rintro e w2 ⟨rfl, rfl⟩)
  go_ret2
  exact ⟨rfl, Below.refl _ _⟩
set_option maxRecDepth 100000 in
theorem dRef_o (s X : ByteArray) (k E : Nat) (hk : k < s.size) (hs : s.size ≤ 65536) (hz : findV s ⟨#[59]⟩ k = (E : Int)) (h1 : k + 1 ≤ E) (h2 : E ≤ s.size) (hX : s.extract (k + 1) E = X) (n0 : (X.toList == ([108, 116] : List UInt8)) = false) (n1 : (X.toList == ([103, 116] : List UInt8)) = false) (n2 : (X.toList == ([97, 109, 112] : List UInt8)) = false) (n3 : (X.toList == ([97, 112, 111, 115] : List UInt8)) = false) (n4 : (X.toList == ([113, 117, 111, 116] : List UInt8)) = false) (p2 : 2 < X.size) (e0 : X[0].toNat ≠ 35) : RefQ s k E [] := by
  intro w
  have HF := Lib.hid (dFind_any s ⟨#[59]⟩ k (E : Int) hz (by omega) hs (by show 1 ≤ 65536; omega) (by show 1 ≤ 1; omega))
  have hw1 : wrap64 ((k : Int) + 1) = ((k + 1 : Nat) : Int) := by rw [Go.IntWalk.wrap64_in _ (by omega)]; push_cast; rfl
  have hw2 : wrap64 ((E : Int) + 1) = ((E + 1 : Nat) : Int) := by rw [Go.IntWalk.wrap64_in _ (by omega)]; push_cast; rfl
  have hE0 : ¬ (E : Int) < 0 := by omega
  have hE1 : ((k + 1 : Nat) : Int) ≤ (E : Int) := by omega
  have hE2 : (E : Int) ≤ (s.size : Int) := by omega
  have hk1 : (0 : Int) ≤ ((k + 1 : Nat) : Int) := by omega
  have q2 : (2 : Int) < (X.size : Int) := by omega
  have q1 : (1 : Int) < (X.size : Int) := by omega
  have q0 : (0 : Int) < (X.size : Int) := by omega
  have p0 : 0 < X.size := by omega
  have f0 : ((X[0].toNat : Int) == 35) = false := beq_eq_false_iff_ne.2 (by omega)
  clear hz
  go_enter Tryz.func47, Tryz.ntmps47
  go_wp2_with (go_at_call 25; refine (HF.out _).mono ?_; rintro e w2 ⟨rfl, rfl⟩)
  go_ret2
  exact ⟨rfl, Below.refl _ _⟩
theorem ne_beq {X : ByteArray} {l : List UInt8} (h : X.data.toList ≠ l) : (X.toList == l) = false := beq_eq_false_iff_ne.2 (by rw [Lib.toList_data]; exact h)
theorem dRefQ (s X : ByteArray) (k E : Nat) (hk : k < s.size) (hs : s.size ≤ 65536) (hz : findV s ⟨#[59]⟩ k = (E : Int)) (h1 : k + 1 ≤ E) (h2 : E ≤ s.size) (hX : s.extract (k + 1) E = X) : RefQ s k E (meanR X.data.toList) := by
  have hL : ∀ l : List UInt8, X.data.toList = l → X.toList = l := fun l h => by rw [Lib.toList_data]; exact h
  unfold meanR
  by_cases g0 : X.data.toList = [108, 116]
  · rw [if_pos g0]; exact dRef_n0 s X k E hk hs hz h1 h2 hX (hL _ g0)
  rw [if_neg g0]
  by_cases g1 : X.data.toList = [103, 116]
  · rw [if_pos g1]; exact dRef_n1 s X k E hk hs hz h1 h2 hX (hL _ g1)
  rw [if_neg g1]
  by_cases g2 : X.data.toList = [97, 109, 112]
  · rw [if_pos g2]; exact dRef_n2 s X k E hk hs hz h1 h2 hX (hL _ g2)
  rw [if_neg g2]
  by_cases g3 : X.data.toList = [97, 112, 111, 115]
  · rw [if_pos g3]; exact dRef_n3 s X k E hk hs hz h1 h2 hX (hL _ g3)
  rw [if_neg g3]
  by_cases g4 : X.data.toList = [113, 117, 111, 116]
  · rw [if_pos g4]; exact dRef_n4 s X k E hk hs hz h1 h2 hX (hL _ g4)
  rw [if_neg g4]
  have m0 := ne_beq g0
  have m1 := ne_beq g1
  have m2 := ne_beq g2
  have m3 := ne_beq g3
  have m4 := ne_beq g4
  have hlen : X.data.toList.length = X.size := size_toList X
  by_cases p2 : 2 < X.size
  · have hc : X.data.toList = X[0] :: X[1] :: X.data.toList.drop 2 := by
      have a := nxAt_cons X 0 (by omega)
      have b := nxAt_cons X 1 (by omega)
      rw [List.drop_zero] at a
      rw [a, b]
      rfl
    by_cases e0 : X[0].toNat = 35
    · have k0 : X[0] = 35 := UInt8.toNat_inj.1 e0
      by_cases e1 : X[1].toNat = 120
      · have k1 : X[1] = 120 := UInt8.toNat_inj.1 e1
        rw [if_pos ⟨by rw [hlen]; exact p2, by rw [hc, k0, k1]; simp [Lib.hasPrefix, List.isPrefixOf]⟩]
        exact dRef_x s X k E hk hs hz h1 h2 hX m0 m1 m2 m3 m4 p2 e0 e1
      · have k1 : X[1] ≠ 120 := fun e => e1 (by rw [e]; rfl)
        rw [if_neg (by rintro ⟨_, e⟩; rw [hc, k0] at e; simp [Lib.hasPrefix, List.isPrefixOf] at e; exact k1 e.symm), if_pos ⟨by rw [hlen]; omega, by rw [hc, k0]; simp [Lib.hasPrefix, List.isPrefixOf]⟩]
        exact dRef_d s X k E hk hs hz h1 h2 hX m0 m1 m2 m3 m4 p2 e0 e1
    · have k0 : X[0] ≠ 35 := fun e => e0 (by rw [e]; rfl)
      rw [if_neg (by rintro ⟨_, e⟩; rw [hc] at e; simp [Lib.hasPrefix, List.isPrefixOf] at e; exact k0 e.1.symm), if_neg (by rintro ⟨_, e⟩; rw [hc] at e; simp [Lib.hasPrefix, List.isPrefixOf] at e; exact k0 e.symm)]
      exact dRef_o s X k E hk hs hz h1 h2 hX m0 m1 m2 m3 m4 p2 e0
  by_cases p1 : X.size = 2
  · have hc : X.data.toList = X[0] :: X.data.toList.drop 1 := by
      have a := nxAt_cons X 0 (by omega)
      rw [List.drop_zero] at a
      exact a
    rw [if_neg (by rintro ⟨e, _⟩; rw [hlen] at e; omega)]
    by_cases e0 : X[0].toNat = 35
    · have k0 : X[0] = 35 := UInt8.toNat_inj.1 e0
      rw [if_pos ⟨by rw [hlen]; omega, by rw [hc, k0]; simp [Lib.hasPrefix, List.isPrefixOf]⟩]
      exact dRef_d2 s X k E hk hs hz h1 h2 hX m0 m1 m2 m3 m4 (by omega) (by omega) e0
    · have k0 : X[0] ≠ 35 := fun e => e0 (by rw [e]; rfl)
      rw [if_neg (by rintro ⟨_, e⟩; rw [hc] at e; simp [Lib.hasPrefix, List.isPrefixOf] at e; exact k0 e.symm)]
      exact dRef_o2 s X k E hk hs hz h1 h2 hX m0 m1 m2 m3 m4 p1 e0
  · rw [if_neg (by rintro ⟨e, _⟩; rw [hlen] at e; omega), if_neg (by rintro ⟨e, _⟩; rw [hlen] at e; omega)]
    exact dRef_o1 s X k E hk hs hz h1 h2 hX m0 m1 m2 m3 m4 (by omega)
theorem dRef_any (s : ByteArray) (k : Nat) (hk : k < s.size) (h38 : hd (tl s k) = 38) (hs : s.size ≤ 65536) (w : World) :
    Calls Tryz.prog 47 #[.string s, .int .i64 (k : Int)] w fun e w' => e = .returned (.tuple #[.string ⟨(refT k (refO (tl s k))).1.toArray⟩, .int .i64 ((refT k (refO (tl s k))).2 : Int)]) ∧ Below w.heap.size w w' := by
  by_cases h : 0 ≤ Lib.index (tl s k) [59]
  · have hj := semi_pos hk h38 h
    have hroom := Lib.index_room (tl s k) [59] h
    rw [tl_length] at hroom
    simp only [List.length_cons, List.length_nil] at hroom
    obtain ⟨j, hje⟩ : ∃ j : Nat, Lib.index (tl s k) [59] = (j : Int) := ⟨_, (Int.toNat_of_nonneg h).symm⟩
    have hz : findV s ⟨#[59]⟩ k = ((k + j : Nat) : Int) := by
      unfold findV
      show (if Lib.index (tl s k) [59] = -1 then (-1 : Int) else (k : Int) + Lib.index (tl s k) [59]) = _
      rw [hje, if_neg (by omega)]
      omega
    rw [hje] at hj hroom
    have hq := dRefQ s _ k (k + j) hk hs hz (by omega) (by omega) rfl w
    rw [refO_R hk h38 h, hje, Int.toNat_natCast]
    refine hq.mono ?_
    rintro e w' ⟨rfl, hb⟩
    refine ⟨?_, hb⟩
    by_cases hm : meanR (s.extract (k + 1) (k + j)).data.toList ≠ []
    · rw [if_pos hm, if_neg hm]
      rfl
    · rw [if_neg hm]
      have hm' : meanR (s.extract (k + 1) (k + j)).data.toList = [] := by simpa using hm
      rw [hm', if_pos rfl]
      rfl
  · exact dRef_none s k hk hs h w
end Go.Proofs.YtbokcihlbpeagaaGreatDoor
