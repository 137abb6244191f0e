/-
  What is proved: contracts of utf's Place and of the document's Line and Column; each turns nothing. Conditions: those in each statement.
-/
import Derived.Test.YtnemciagocicmaaUa
namespace Go.Proofs.Ytnemciagocicmaa
open Go.RowKit

theorem size_toList (s : ByteArray) : s.data.toList.length = s.size := by rw [Array.length_toList]; rfl
theorem str_at (s : ByteArray) (k : Nat) (_h : k < s.size) (h' : k < s.data.toList.length) : s.data.toList[k] = s[k] := by
  rw [Array.getElem_toList]
  rfl
/-- a byte further: line and column -/
def pstep (p : Nat × Nat) (b : UInt8) : Nat × Nat := if b.toNat = 10 then (p.1 + 1, 1) else (p.1, p.2 + 1)
/-- line and column behind these bytes -/
def plc (l : List UInt8) : Nat × Nat := l.foldl pstep (1, 1)
theorem plc_snoc (l : List UInt8) (b : UInt8) : plc (l ++ [b]) = pstep (plc l) b := by unfold plc; rw [List.foldl_append]; rfl
theorem plc_take (l : List UInt8) (k : Nat) (h : k < l.length) : plc (l.take (k + 1)) = pstep (plc (l.take k)) l[k] := by
  rw [List.take_succ_eq_append_getElem h, plc_snoc]
theorem plc_le (l : List UInt8) : ∀ k, (plc (l.take k)).1 ≤ k + 1 ∧ (plc (l.take k)).2 ≤ k + 1
  | 0 => by simp [plc]
  | k + 1 => by
    by_cases h : k < l.length
    · rw [plc_take l k h]
      have := plc_le l k
      unfold pstep
      split <;> simp only <;> omega
    · have := plc_le l k
      rw [List.take_of_length_le (by omega)] at this ⊢
      omega
theorem plc_yes (s : ByteArray) (k : Nat) (h : k < s.size) (hb : s[k].toNat = 10) : plc (s.data.toList.take (k + 1)) = ((plc (s.data.toList.take k)).1 + 1, 1) := by
  rw [plc_take _ k (by rw [size_toList]; exact h), str_at s k h]
  unfold pstep
  rw [if_pos hb]
theorem plc_no (s : ByteArray) (k : Nat) (h : k < s.size) (hb : ¬ s[k].toNat = 10) : plc (s.data.toList.take (k + 1)) = ((plc (s.data.toList.take k)).1, (plc (s.data.toList.take k)).2 + 1) := by
  rw [plc_take _ k (by rw [size_toList]; exact h), str_at s k h]
  unfold pstep
  rw [if_neg hb]
theorem take_end (s : ByteArray) (k : Nat) (x : Int) (h : (k : Int) ≤ max 0 x) (he : ¬ k < s.size ∨ ¬ (k : Int) < x) : s.data.toList.take x.toNat = s.data.toList.take k := by
  by_cases h1 : k < s.size
  · have : x.toNat = k := by omega
    rw [this]
  · rw [List.take_of_length_le (by rw [size_toList]; omega), List.take_of_length_le (i := k) (by rw [size_toList]; omega)]

theorem line_any (s : ByteArray) (x : Int) (w : World) (hs : s.size ≤ 140737488355328) :
    Calls Try.prog 22 #[.string s, .int .i64 x] w fun e w' => e = .returned (.int .i64 ((plc (s.data.toList.take x.toNat)).1 : Int)) ∧ w = w' := by
  go_enter Try.func22, Try.ntmps22
  go_wp2
  go_loop [5, 6] (fun x_1 i => ∃ k : Nat, k ≤ s.size ∧ (k : Int) ≤ max 0 x ∧ i = .int .i64 k ∧ x_1 = .int .i64 ((plc (s.data.toList.take k)).1 : Int)) (fun _ i => s.size - (intOf i).toNat)
  case atStart => exact ⟨0, by omega, by omega, rfl, rfl⟩
  case round =>
    obtain ⟨k, hk, hk2, rfl, rfl⟩ := hrel
    by_cases h1 : k < s.size
    · by_cases h2 : (k : Int) < x
      · have hX := plc_le s.data.toList k
        by_cases hb : s[k].toNat = 10
        · have HS := Lib.hid (plc_yes s k h1 hb)
          generalize plc (s.data.toList.take k) = X at *
          go_wp2
          go_round
          case rel => exact ⟨k + 1, by omega, by omega, by go_num, by rw [HS.out] <;> go_num⟩
          case measure => simp [intOf]; omega
        · have HS := Lib.hid (plc_no s k h1 hb)
          generalize plc (s.data.toList.take k) = X at *
          have hb' : ((s[k].toNat : Int) == 10) = false := beq_eq_false_iff_ne.2 (by omega)
          go_wp2
          go_round
          case rel => exact ⟨k + 1, by omega, by omega, by go_num, by rw [HS.out] <;> go_num⟩
          case measure => simp [intOf]; omega
      · have HT := Lib.hid (take_end s k x hk2 (.inr h2))
        go_wp2
        go_ret
        exact ⟨by rw [HT.out]; rfl, rfl⟩
    · have HT := Lib.hid (take_end s k x hk2 (.inl h1))
      go_wp2
      go_ret
      exact ⟨by rw [HT.out]; rfl, rfl⟩

theorem col_any (s : ByteArray) (x : Int) (w : World) (hs : s.size ≤ 140737488355328) :
    Calls Try.prog 23 #[.string s, .int .i64 x] w fun e w' => e = .returned (.int .i64 ((plc (s.data.toList.take x.toNat)).2 : Int)) ∧ w = w' := by
  go_enter Try.func23, Try.ntmps23
  go_wp2
  go_loop [5, 6] (fun x_1 i => ∃ k : Nat, k ≤ s.size ∧ (k : Int) ≤ max 0 x ∧ i = .int .i64 k ∧ x_1 = .int .i64 ((plc (s.data.toList.take k)).2 : Int)) (fun _ i => s.size - (intOf i).toNat)
  case atStart => exact ⟨0, by omega, by omega, rfl, rfl⟩
  case round =>
    obtain ⟨k, hk, hk2, rfl, rfl⟩ := hrel
    by_cases h1 : k < s.size
    · by_cases h2 : (k : Int) < x
      · have hX := plc_le s.data.toList k
        by_cases hb : s[k].toNat = 10
        · have HS := Lib.hid (plc_yes s k h1 hb)
          generalize plc (s.data.toList.take k) = X at *
          go_wp2
          go_round
          case rel => exact ⟨k + 1, by omega, by omega, by go_num, by rw [HS.out] <;> go_num⟩
          case measure => simp [intOf]; omega
        · have HS := Lib.hid (plc_no s k h1 hb)
          generalize plc (s.data.toList.take k) = X at *
          have hb' : ((s[k].toNat : Int) == 10) = false := beq_eq_false_iff_ne.2 (by omega)
          go_wp2
          go_round
          case rel => exact ⟨k + 1, by omega, by omega, by go_num, by rw [HS.out] <;> go_num⟩
          case measure => simp [intOf]; omega
      · have HT := Lib.hid (take_end s k x hk2 (.inr h2))
        go_wp2
        go_ret
        exact ⟨by rw [HT.out]; rfl, rfl⟩
    · have HT := Lib.hid (take_end s k x hk2 (.inl h1))
      go_wp2
      go_ret
      exact ⟨by rw [HT.out]; rfl, rfl⟩

theorem place_any (s : ByteArray) (x : Int) (w : World) (hs : s.size ≤ 140737488355328) :
    Calls Try.prog 21 #[.string s, .int .i64 x] w fun e w' => e = .returned (.tuple #[.int .i64 ((plc (s.data.toList.take x.toNat)).1 : Int), .int .i64 ((plc (s.data.toList.take x.toNat)).2 : Int)]) ∧ w = w' := by
  by_cases g1 : (s.size : Int) < x
  · by_cases g2 : s.size = 0
    · have g3 : (s.size : Int) ≤ 0 := by omega
      go_enter Try.func21, Try.ntmps21
      go_wp2
      go_loop [6, 7, 15] (fun a b i => i = .int .i64 0 ∧ a = .int .i64 1 ∧ b = .int .i64 1) (fun _ _ i => (intOf i).toNat)
      case atStart => exact ⟨rfl, rfl, rfl⟩
      case round =>
        obtain ⟨rfl, rfl, rfl⟩ := hrel
        have HT : Hid (s.data.toList.take x.toNat = []) := Lib.hid (by rw [take_end s 0 x (by omega) (by omega)]; rfl)
        go_wp2
        go_ret2
        exact ⟨by rw [HT.out]; rfl, rfl⟩
    · have g3 : ¬ (s.size : Int) ≤ 0 := by omega
      go_enter Try.func21, Try.ntmps21
      go_wp2
      go_loop [6, 7, 15] (fun a b i => ∃ k : Nat, k ≤ s.size ∧ i = .int .i64 k ∧ a = .int .i64 ((plc (s.data.toList.take k)).1 : Int) ∧ b = .int .i64 ((plc (s.data.toList.take k)).2 : Int)) (fun _ _ i => s.size - (intOf i).toNat)
      case atStart => exact ⟨0, Nat.zero_le _, rfl, rfl, rfl⟩
      case round =>
        obtain ⟨k, hk, rfl, rfl, rfl⟩ := hrel
        by_cases h1 : k < s.size
        · have hX := plc_le s.data.toList k
          have h1' : k < s.size := by omega
          by_cases hb : s[k].toNat = 10
          · have HS := Lib.hid (plc_yes s k h1' hb)
            generalize plc (s.data.toList.take k) = X at *
            go_wp2
            go_round
            case rel => exact ⟨k + 1, by omega, by go_num, by rw [HS.out] <;> go_num, by rw [HS.out] <;> go_num⟩
            case measure => simp [intOf]; omega
          · have HS := Lib.hid (plc_no s k h1' hb)
            generalize plc (s.data.toList.take k) = X at *
            have hb' : ((s[k].toNat : Int) == 10) = false := beq_eq_false_iff_ne.2 (by omega)
            go_wp2
            go_round
            case rel => exact ⟨k + 1, by omega, by go_num, by rw [HS.out] <;> go_num, by rw [HS.out] <;> go_num⟩
            case measure => simp [intOf]; omega
        · have HT : Hid (s.data.toList.take x.toNat = s.data.toList.take k) := Lib.hid (take_end s k x (by omega) (by omega))
          go_wp2
          go_ret2
          exact ⟨by rw [HT.out]; rfl, rfl⟩
  · by_cases g2 : x ≤ 0
    · go_enter Try.func21, Try.ntmps21
      go_wp2
      go_loop [6, 7, 15] (fun a b i => i = .int .i64 0 ∧ a = .int .i64 1 ∧ b = .int .i64 1) (fun _ _ i => (intOf i).toNat)
      case atStart => exact ⟨rfl, rfl, rfl⟩
      case round =>
        obtain ⟨rfl, rfl, rfl⟩ := hrel
        have HT : Hid (s.data.toList.take x.toNat = []) := Lib.hid (by rw [take_end s 0 x (by omega) (by omega)]; rfl)
        go_wp2
        go_ret2
        exact ⟨by rw [HT.out]; rfl, rfl⟩
    · obtain ⟨m, rfl⟩ := Int.eq_ofNat_of_zero_le (show 0 ≤ x by omega)
      have g3 : m ≤ s.size := by omega
      go_enter Try.func21, Try.ntmps21
      go_wp2
      go_loop [6, 7, 15] (fun a b i => ∃ k : Nat, k ≤ m ∧ i = .int .i64 k ∧ a = .int .i64 ((plc (s.data.toList.take k)).1 : Int) ∧ b = .int .i64 ((plc (s.data.toList.take k)).2 : Int)) (fun _ _ i => m - (intOf i).toNat)
      case atStart => exact ⟨0, Nat.zero_le _, rfl, rfl, rfl⟩
      case round =>
        obtain ⟨k, hk, rfl, rfl, rfl⟩ := hrel
        by_cases h1 : k < m
        · have hX := plc_le s.data.toList k
          have h1' : k < s.size := by omega
          by_cases hb : s[k].toNat = 10
          · have HS := Lib.hid (plc_yes s k h1' hb)
            generalize plc (s.data.toList.take k) = X at *
            go_wp2
            go_round
            case rel => exact ⟨k + 1, by omega, by go_num, by rw [HS.out] <;> go_num, by rw [HS.out] <;> go_num⟩
            case measure => simp [intOf]; omega
          · have HS := Lib.hid (plc_no s k h1' hb)
            generalize plc (s.data.toList.take k) = X at *
            have hb' : ((s[k].toNat : Int) == 10) = false := beq_eq_false_iff_ne.2 (by omega)
            go_wp2
            go_round
            case rel => exact ⟨k + 1, by omega, by go_num, by rw [HS.out] <;> go_num, by rw [HS.out] <;> go_num⟩
            case measure => simp [intOf]; omega
        · have HT : Hid (s.data.toList.take m = s.data.toList.take k) := Lib.hid (by rw [show k = m by omega])
          go_wp2
          go_ret2
          exact ⟨by rw [HT.out]; rfl, rfl⟩
end Go.Proofs.Ytnemciagocicmaa
