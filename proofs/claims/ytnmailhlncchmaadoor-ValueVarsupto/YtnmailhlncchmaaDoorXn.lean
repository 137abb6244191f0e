/-
  What is proved: contracts of value's Name and of the document's Name. Conditions: those in each statement.
-/
import Derived.Test.YtnmailhlncchmaaDoorXa
namespace Go.Proofs.YtnmailhlncchmaaDoor
open Go.RowKit

theorem nmF_on {f : Bool} {s : ByteArray} {k : Nat} (h : k < s.size) (hb : (leB s[k] || (!f && fuB s[k])) = true) : nmF f (tl s k) = nmF false (tl s (k + 1)) := by
  rw [tl_cons s k h]
  show ((leB s[k] || (!f && fuB s[k])) && nmF false (tl s (k + 1))) = _
  rw [hb, Bool.true_and]
theorem nmF_no {f : Bool} {s : ByteArray} {k : Nat} (h : k < s.size) (hb : (leB s[k] || (!f && fuB s[k])) = false) : nmF f (tl s k) = false := by
  rw [tl_cons s k h]
  show ((leB s[k] || (!f && fuB s[k])) && nmF false (tl s (k + 1))) = _
  rw [hb, Bool.false_and]
theorem nmF_nil (f : Bool) : nmF f [] = true := by cases f <;> rfl
theorem nameB_size {s : ByteArray} (h : s.size = 0 ∨ 32 < s.size) : nameB s.data.toList = false := by
  unfold nameB
  rw [size_toList]
  rcases h with h | h
  · rw [decide_eq_false (by omega), Bool.false_and]
  · rw [decide_eq_false (p := s.size ≤ 32) (by omega), Bool.false_and, Bool.and_false]
theorem nameB_in {s : ByteArray} (h0 : s.size ≠ 0) (h : ¬ 32 < s.size) : nameB s.data.toList = nmF true (tl s 0) := by
  unfold nameB
  rw [size_toList, decide_eq_true (by omega), decide_eq_true (p := s.size ≤ 32) (by omega), Bool.true_and, Bool.true_and]
  rfl
def inLe (n : Nat) : Prop := (65 ≤ n ∧ n ≤ 90) ∨ (97 ≤ n ∧ n ≤ 122) ∨ n = 95
theorem leB_true {c : UInt8} (h : inLe c.toNat) : leB c = true := by unfold leB; exact decide_eq_true (by unfold inLe at h; omega)
theorem leB_false {c : UInt8} (h : ¬ inLe c.toNat) : leB c = false := by unfold leB; exact decide_eq_false (by unfold inLe at h; omega)
theorem fuB_true {c : UInt8} (h : (48 ≤ c.toNat ∧ c.toNat ≤ 57) ∨ c.toNat = 45) : fuB c = true := by unfold fuB; exact decide_eq_true (by omega)
theorem fuB_false {c : UInt8} (h : ¬ ((48 ≤ c.toNat ∧ c.toNat ≤ 57) ∨ c.toNat = 45)) : fuB c = false := by unfold fuB; exact decide_eq_false (by omega)

set_option maxHeartbeats 8000000 in
set_option maxRecDepth 100000 in
theorem name_any (w : World) (s : ByteArray) : Calls Tryd.prog 14 #[.string s] w fun e w' => e = .returned (.bool (nameB s.data.toList)) ∧ w = w' := by
  by_cases h0 : s.size = 0
  · have hz : (s.size : Int) = 0 := by omega
    rw [nameB_size (.inl h0)]
    go_enter Tryd.func14, Tryd.ntmps14
    go_wp2
    go_ret
    exact ⟨rfl, rfl⟩
  by_cases h32 : 32 < s.size
  · have hz : ¬ (s.size : Int) = 0 := by omega
    rw [nameB_size (.inr h32)]
    go_enter Tryd.func14, Tryd.ntmps14
    go_wp2
    go_ret
    exact ⟨rfl, rfl⟩
  have HO := Lib.hid (nameB_in h0 h32)
  have hz : ¬ (s.size : Int) = 0 := by omega
  have hz2 : ¬ (32 : Int) < (s.size : Int) := by omega
  go_enter Tryd.func14, Tryd.ntmps14
  go_wp2
  go_loop [14] (fun i => ∃ k : Nat, k ≤ s.size ∧ i = .int .i64 k ∧ Hid (nmF true (tl s 0) = nmF (decide (k = 0)) (tl s k))) (fun i => s.size - (intOf i).toNat)
  case atStart => exact ⟨0, Nat.zero_le _, rfl, Lib.hid rfl⟩
  case round =>
    obtain ⟨k, hk, rfl, HC⟩ := hrel
    by_cases he : k < s.size
    · have HL := Lib.hid (fun (b : Bool) (hb : b = leB s[k]) W => letter_is s[k] b hb W)
      have HF := Lib.hid (fun (b : Bool) (hb : b = fuB s[k]) W => further_is s[k] b hb W)
      cases hl : leB s[k] with
      | true =>
        have HL2 := Lib.hid (fun W => HL.out true hl.symm W)
        have HN : Hid (nmF true (tl s 0) = nmF (decide (k + 1 = 0)) (tl s (k + 1))) := Lib.hid (by rw [HC.out, nmF_on he (by rw [hl]; rfl)]; rfl)
        clear HC hl
        go_wp2_with (first
          | (go_at_call 33; refine (HL2.out _).mono ?_; rintro e w2 ⟨rfl, rfl⟩))
        go_round
        case rel => exact ⟨k + 1, by omega, by go_num, HN⟩
        case measure => simp [intOf]; omega
      | false =>
        have HL2 := Lib.hid (fun W => HL.out false hl.symm W)
        by_cases hk0 : k = 0
        · subst hk0
          have HT : Hid (nameB s.data.toList = false) := Lib.hid (by rw [HO.out, nmF_no he (by rw [hl]; rfl)])
          clear HC hl
          go_wp2_with (first
            | (go_at_call 33; refine (HL2.out _).mono ?_; rintro e w2 ⟨rfl, rfl⟩)
            | (go_at_call 34; refine (HF.out _ rfl _).mono ?_; rintro e w2 ⟨rfl, rfl⟩))
          go_ret
          exact ⟨by rw [HT.out]; rfl, rfl⟩
        · have hkz : ¬ (k : Int) = 0 := by omega
          cases hf : fuB s[k] with
          | true =>
            have HF2 := Lib.hid (fun W => HF.out true hf.symm W)
            have HN : Hid (nmF true (tl s 0) = nmF (decide (k + 1 = 0)) (tl s (k + 1))) := Lib.hid (by rw [HC.out, nmF_on he (by rw [hl, hf, decide_eq_false hk0]; rfl)]; rfl)
            clear HC hl hf
            go_wp2_with (first
              | (go_at_call 33; refine (HL2.out _).mono ?_; rintro e w2 ⟨rfl, rfl⟩)
              | (go_at_call 34; refine (HF2.out _).mono ?_; rintro e w2 ⟨rfl, rfl⟩))
            go_round
            case rel => exact ⟨k + 1, by omega, by go_num, HN⟩
            case measure => simp [intOf]; omega
          | false =>
            have HF2 := Lib.hid (fun W => HF.out false hf.symm W)
            have HT : Hid (nameB s.data.toList = false) := Lib.hid (by rw [HO.out, HC.out, nmF_no he (by rw [hl, hf, decide_eq_false hk0]; rfl)])
            clear HC hl hf
            go_wp2_with (first
              | (go_at_call 33; refine (HL2.out _).mono ?_; rintro e w2 ⟨rfl, rfl⟩)
              | (go_at_call 34; refine (HF2.out _).mono ?_; rintro e w2 ⟨rfl, rfl⟩))
            go_ret
            exact ⟨by rw [HT.out]; rfl, rfl⟩
    · have HT : Hid (nameB s.data.toList = true) := Lib.hid (by rw [HO.out, HC.out, (tl_nil hk).2 (by omega), nmF_nil])
      clear HC
      go_wp2
      go_ret
      exact ⟨by rw [HT.out]; rfl, rfl⟩

set_option maxHeartbeats 16000000 in
set_option maxRecDepth 100000 in
theorem dName_any (w : World) (s : ByteArray) : Calls Tryd.prog 15 #[.string s] w fun e w' => e = .returned (.bool (nameB s.data.toList)) ∧ w = w' := by
  by_cases h0 : s.size = 0
  · have hz : (s.size : Int) < 1 := by omega
    rw [nameB_size (.inl h0)]
    go_enter Tryd.func15, Tryd.ntmps15
    go_wp2
    go_ret
    exact ⟨rfl, rfl⟩
  by_cases h32 : 32 < s.size
  · have hz : ¬ (s.size : Int) < 1 := by omega
    rw [nameB_size (.inr h32)]
    go_enter Tryd.func15, Tryd.ntmps15
    go_wp2
    go_ret
    exact ⟨rfl, rfl⟩
  have HO := Lib.hid (nameB_in h0 h32)
  have hz : ¬ (s.size : Int) < 1 := by omega
  go_enter Tryd.func15, Tryd.ntmps15
  go_wp2
  go_loop [3] (fun i => ∃ k : Nat, k ≤ s.size ∧ i = .int .i64 k ∧ Hid (nmF true (tl s 0) = nmF (decide (k = 0)) (tl s k))) (fun i => s.size - (intOf i).toNat)
  case atStart => exact ⟨0, Nat.zero_le _, rfl, Lib.hid rfl⟩
  case round =>
    obtain ⟨k, hk, rfl, HC⟩ := hrel
    by_cases he : k < s.size
    · have hc := UInt8.toNat_lt s[k]
      have HLT := Lib.hid (leB_true (c := s[k]))
      have HLF := Lib.hid (leB_false (c := s[k]))
      have HFT := Lib.hid (fuB_true (c := s[k]))
      have HFF := Lib.hid (fuB_false (c := s[k]))
      have HON := Lib.hid (fun h => nmF_on (f := decide (k = 0)) he h)
      have HNO := Lib.hid (fun h => nmF_no (f := decide (k = 0)) he h)
      rcases (by omega : (s[k].toNat < 45) ∨ (s[k].toNat = 45) ∨ (45 < s[k].toNat ∧ s[k].toNat < 48) ∨ (48 ≤ s[k].toNat ∧ s[k].toNat ≤ 57) ∨ (57 < s[k].toNat ∧ s[k].toNat < 65) ∨ (65 ≤ s[k].toNat ∧ s[k].toNat ≤ 90) ∨ (90 < s[k].toNat ∧ s[k].toNat < 95) ∨ (s[k].toNat = 95) ∨ (s[k].toNat = 96) ∨ (97 ≤ s[k].toNat ∧ s[k].toNat ≤ 122) ∨ (122 < s[k].toNat)) with q | q | q | q | q | q | q | q | q | q | q
      · have HL := Lib.hid (HLF.out (by unfold inLe; omega))
        have d90 : decide ((s[k].toNat : Int) ≤ 90) = true := decide_eq_true (by omega)
        have d122 : decide ((s[k].toNat : Int) ≤ 122) = true := decide_eq_true (by omega)
        have d57 : decide ((s[k].toNat : Int) ≤ 57) = true := decide_eq_true (by omega)
        have q95 : ((s[k].toNat : Int) == 95) = false := beq_eq_false_iff_ne.2 (by omega)
        have q45 : ((s[k].toNat : Int) == 45) = false := beq_eq_false_iff_ne.2 (by omega)
        have HF := Lib.hid (HFF.out (by omega))
        have HT : Hid (nameB s.data.toList = false) := Lib.hid (by rw [HO.out, HC.out, HNO.out (by rw [HL.out, HF.out]; simp)])
        clear HC HLT HLF HFT HFF HON HNO HL HF
        go_wp2
        go_ret
        exact ⟨by rw [HT.out]; rfl, rfl⟩
      · have HL := Lib.hid (HLF.out (by unfold inLe; omega))
        have q95 : ((s[k].toNat : Int) == 95) = false := beq_eq_false_iff_ne.2 (by omega)
        have HF := Lib.hid (HFT.out (by omega))
        by_cases hk0 : k = 0
        · have HT : Hid (nameB s.data.toList = false) := Lib.hid (by rw [HO.out, HC.out, HNO.out (by rw [HL.out, decide_eq_true hk0]; rfl)])
          clear HC HLT HLF HFT HFF HON HNO HL HF
          have qz : (s[k].toNat : Int) = 45 := by omega
          subst hk0
          go_wp2
          go_ret
          exact ⟨by rw [HT.out]; rfl, rfl⟩
        · have HN : Hid (nmF true (tl s 0) = nmF (decide (k + 1 = 0)) (tl s (k + 1))) := Lib.hid (by rw [HC.out, HON.out (by rw [HL.out, HF.out, decide_eq_false hk0]; rfl)]; rfl)
          have hkz : ¬ (k : Int) = 0 := by omega
          clear HC HLT HLF HFT HFF HON HNO HL HF
          have qz : (s[k].toNat : Int) = 45 := by omega
          go_wp2
          go_round
          case rel => exact ⟨k + 1, by omega, by go_num, HN⟩
          case measure => simp [intOf]; omega
      · have HL := Lib.hid (HLF.out (by unfold inLe; omega))
        have d90 : decide ((s[k].toNat : Int) ≤ 90) = true := decide_eq_true (by omega)
        have d122 : decide ((s[k].toNat : Int) ≤ 122) = true := decide_eq_true (by omega)
        have d57 : decide ((s[k].toNat : Int) ≤ 57) = true := decide_eq_true (by omega)
        have q95 : ((s[k].toNat : Int) == 95) = false := beq_eq_false_iff_ne.2 (by omega)
        have q45 : ((s[k].toNat : Int) == 45) = false := beq_eq_false_iff_ne.2 (by omega)
        have HF := Lib.hid (HFF.out (by omega))
        have HT : Hid (nameB s.data.toList = false) := Lib.hid (by rw [HO.out, HC.out, HNO.out (by rw [HL.out, HF.out]; simp)])
        clear HC HLT HLF HFT HFF HON HNO HL HF
        obtain ⟨q1, q2⟩ := q
        go_wp2
        go_ret
        exact ⟨by rw [HT.out]; rfl, rfl⟩
      · have HL := Lib.hid (HLF.out (by unfold inLe; omega))
        have d90 : decide ((s[k].toNat : Int) ≤ 90) = true := decide_eq_true (by omega)
        have d122 : decide ((s[k].toNat : Int) ≤ 122) = true := decide_eq_true (by omega)
        have d57 : decide ((s[k].toNat : Int) ≤ 57) = true := decide_eq_true (by omega)
        have q95 : ((s[k].toNat : Int) == 95) = false := beq_eq_false_iff_ne.2 (by omega)
        have q45 : ((s[k].toNat : Int) == 45) = false := beq_eq_false_iff_ne.2 (by omega)
        have HF := Lib.hid (HFT.out (by omega))
        by_cases hk0 : k = 0
        · have HT : Hid (nameB s.data.toList = false) := Lib.hid (by rw [HO.out, HC.out, HNO.out (by rw [HL.out, decide_eq_true hk0]; rfl)])
          clear HC HLT HLF HFT HFF HON HNO HL HF
          obtain ⟨q1, q2⟩ := q
          subst hk0
          go_wp2
          go_ret
          exact ⟨by rw [HT.out]; rfl, rfl⟩
        · have HN : Hid (nmF true (tl s 0) = nmF (decide (k + 1 = 0)) (tl s (k + 1))) := Lib.hid (by rw [HC.out, HON.out (by rw [HL.out, HF.out, decide_eq_false hk0]; rfl)]; rfl)
          have hkz : ¬ (k : Int) = 0 := by omega
          clear HC HLT HLF HFT HFF HON HNO HL HF
          obtain ⟨q1, q2⟩ := q
          go_wp2
          go_round
          case rel => exact ⟨k + 1, by omega, by go_num, HN⟩
          case measure => simp [intOf]; omega
      · have HL := Lib.hid (HLF.out (by unfold inLe; omega))
        have d90 : decide ((s[k].toNat : Int) ≤ 90) = true := decide_eq_true (by omega)
        have d122 : decide ((s[k].toNat : Int) ≤ 122) = true := decide_eq_true (by omega)
        have d57 : decide ((s[k].toNat : Int) ≤ 57) = false := decide_eq_false (by omega)
        have q95 : ((s[k].toNat : Int) == 95) = false := beq_eq_false_iff_ne.2 (by omega)
        have q45 : ((s[k].toNat : Int) == 45) = false := beq_eq_false_iff_ne.2 (by omega)
        have HF := Lib.hid (HFF.out (by omega))
        have HT : Hid (nameB s.data.toList = false) := Lib.hid (by rw [HO.out, HC.out, HNO.out (by rw [HL.out, HF.out]; simp)])
        clear HC HLT HLF HFT HFF HON HNO HL HF
        obtain ⟨q1, q2⟩ := q
        go_wp2
        go_ret
        exact ⟨by rw [HT.out]; rfl, rfl⟩
      · have HL := Lib.hid (HLT.out (by unfold inLe; omega))
        have d90 : decide ((s[k].toNat : Int) ≤ 90) = true := decide_eq_true (by omega)
        have d122 : decide ((s[k].toNat : Int) ≤ 122) = true := decide_eq_true (by omega)
        have d57 : decide ((s[k].toNat : Int) ≤ 57) = false := decide_eq_false (by omega)
        have q95 : ((s[k].toNat : Int) == 95) = false := beq_eq_false_iff_ne.2 (by omega)
        have q45 : ((s[k].toNat : Int) == 45) = false := beq_eq_false_iff_ne.2 (by omega)
        have HN : Hid (nmF true (tl s 0) = nmF (decide (k + 1 = 0)) (tl s (k + 1))) := Lib.hid (by rw [HC.out, HON.out (by rw [HL.out]; rfl)]; rfl)
        clear HC HLT HLF HFT HFF HON HNO HL
        obtain ⟨q1, q2⟩ := q
        go_wp2
        go_round
        case rel => exact ⟨k + 1, by omega, by go_num, HN⟩
        case measure => simp [intOf]; omega
      · have HL := Lib.hid (HLF.out (by unfold inLe; omega))
        have d90 : decide ((s[k].toNat : Int) ≤ 90) = false := decide_eq_false (by omega)
        have d122 : decide ((s[k].toNat : Int) ≤ 122) = true := decide_eq_true (by omega)
        have d57 : decide ((s[k].toNat : Int) ≤ 57) = false := decide_eq_false (by omega)
        have q95 : ((s[k].toNat : Int) == 95) = false := beq_eq_false_iff_ne.2 (by omega)
        have q45 : ((s[k].toNat : Int) == 45) = false := beq_eq_false_iff_ne.2 (by omega)
        have HF := Lib.hid (HFF.out (by omega))
        have HT : Hid (nameB s.data.toList = false) := Lib.hid (by rw [HO.out, HC.out, HNO.out (by rw [HL.out, HF.out]; simp)])
        clear HC HLT HLF HFT HFF HON HNO HL HF
        obtain ⟨q1, q2⟩ := q
        go_wp2
        go_ret
        exact ⟨by rw [HT.out]; rfl, rfl⟩
      · have HL := Lib.hid (HLT.out (by unfold inLe; omega))
        have q45 : ((s[k].toNat : Int) == 45) = false := beq_eq_false_iff_ne.2 (by omega)
        have HN : Hid (nmF true (tl s 0) = nmF (decide (k + 1 = 0)) (tl s (k + 1))) := Lib.hid (by rw [HC.out, HON.out (by rw [HL.out]; rfl)]; rfl)
        clear HC HLT HLF HFT HFF HON HNO HL
        have qz : (s[k].toNat : Int) = 95 := by omega
        go_wp2
        go_round
        case rel => exact ⟨k + 1, by omega, by go_num, HN⟩
        case measure => simp [intOf]; omega
      · have HL := Lib.hid (HLF.out (by unfold inLe; omega))
        have q95 : ((s[k].toNat : Int) == 95) = false := beq_eq_false_iff_ne.2 (by omega)
        have q45 : ((s[k].toNat : Int) == 45) = false := beq_eq_false_iff_ne.2 (by omega)
        have HF := Lib.hid (HFF.out (by omega))
        have HT : Hid (nameB s.data.toList = false) := Lib.hid (by rw [HO.out, HC.out, HNO.out (by rw [HL.out, HF.out]; simp)])
        clear HC HLT HLF HFT HFF HON HNO HL HF
        have qz : (s[k].toNat : Int) = 96 := by omega
        go_wp2
        go_ret
        exact ⟨by rw [HT.out]; rfl, rfl⟩
      · have HL := Lib.hid (HLT.out (by unfold inLe; omega))
        have d90 : decide ((s[k].toNat : Int) ≤ 90) = false := decide_eq_false (by omega)
        have d122 : decide ((s[k].toNat : Int) ≤ 122) = true := decide_eq_true (by omega)
        have d57 : decide ((s[k].toNat : Int) ≤ 57) = false := decide_eq_false (by omega)
        have q95 : ((s[k].toNat : Int) == 95) = false := beq_eq_false_iff_ne.2 (by omega)
        have q45 : ((s[k].toNat : Int) == 45) = false := beq_eq_false_iff_ne.2 (by omega)
        have HN : Hid (nmF true (tl s 0) = nmF (decide (k + 1 = 0)) (tl s (k + 1))) := Lib.hid (by rw [HC.out, HON.out (by rw [HL.out]; rfl)]; rfl)
        clear HC HLT HLF HFT HFF HON HNO HL
        obtain ⟨q1, q2⟩ := q
        go_wp2
        go_round
        case rel => exact ⟨k + 1, by omega, by go_num, HN⟩
        case measure => simp [intOf]; omega
      · have HL := Lib.hid (HLF.out (by unfold inLe; omega))
        have d90 : decide ((s[k].toNat : Int) ≤ 90) = false := decide_eq_false (by omega)
        have d122 : decide ((s[k].toNat : Int) ≤ 122) = false := decide_eq_false (by omega)
        have d57 : decide ((s[k].toNat : Int) ≤ 57) = false := decide_eq_false (by omega)
        have q95 : ((s[k].toNat : Int) == 95) = false := beq_eq_false_iff_ne.2 (by omega)
        have q45 : ((s[k].toNat : Int) == 45) = false := beq_eq_false_iff_ne.2 (by omega)
        have HF := Lib.hid (HFF.out (by omega))
        have HT : Hid (nameB s.data.toList = false) := Lib.hid (by rw [HO.out, HC.out, HNO.out (by rw [HL.out, HF.out]; simp)])
        clear HC HLT HLF HFT HFF HON HNO HL HF
        go_wp2
        go_ret
        exact ⟨by rw [HT.out]; rfl, rfl⟩
    · have HT : Hid (nameB s.data.toList = true) := Lib.hid (by rw [HO.out, HC.out, (tl_nil hk).2 (by omega), nmF_nil])
      clear HC
      go_wp2
      go_ret
      exact ⟨by rw [HT.out]; rfl, rfl⟩
end Go.Proofs.YtnmailhlncchmaaDoor
