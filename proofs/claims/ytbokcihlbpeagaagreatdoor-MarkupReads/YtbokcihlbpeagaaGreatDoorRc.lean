/-
  What is proved: contracts of strconv.ParseUint at base 10 and at base 16, 32 bits, of a text of at most eight bytes. Conditions: those in each statement.
-/
import Derived.Test.YtbokcihlbpeagaaGreatDoorRb
import Derived.Test.YtbokcihlbpeagaaGreatDoorMn
import Derived.Test.YtbokcihlbpeagaaGreatDoorSl
import Derived.Lib.Walk
import Derived.Lib.ConvBytes
import Derived.Lib.ParseIntBMem
import Derived.Laws.Strings3
import Derived.Laws.Closers25
import Derived.Laws.Closers25b
import Derived.BigCall
import Derived.BigGuard
namespace Go.Proofs.YtbokcihlbpeagaaGreatDoor
open Go.RowKit

theorem digv_lt {B c d : Nat} (h : digv B c = some d) : d < B := by
  unfold digv at h
  simp only at h
  generalize (if 48 ≤ c ∧ c ≤ 57 then c - 48 else if 97 ≤ c ∧ c ≤ 102 then c - 87 else if 65 ≤ c ∧ c ≤ 70 then c - 55 else 99) = x at h
  by_cases hx : x < B
  · rw [if_pos hx] at h
    obtain rfl := Option.some.inj h
    exact hx
  · rw [if_neg hx] at h
    exact absurd h (by simp)
/-- what the library's inner function answers -/
def inV : Option Nat → Value
  | some n => .tuple #[.int .u64 (n : Int), .nilIface]
  | none => .tuple #[.int .u64 0, .iface 144 (.int .i64 2)]
theorem pow_acc {B k a d : Nat} (_hB : B ≤ 16) (ha : a < B ^ k) (hd : d < B) : a * B + d < B ^ (k + 1) := by
  rw [Nat.pow_succ]
  have : (a + 1) * B ≤ B ^ k * B := Nat.mul_le_mul_right B ha
  rw [Nat.add_mul] at this
  omega
theorem pow_small {B k : Nat} (hB : B ≤ 16) (h1 : 1 ≤ B) (hk : k ≤ 8) : B ^ k ≤ 4294967296 := by
  have h1 : B ^ k ≤ B ^ 8 := Nat.pow_le_pow_right h1 hk
  have h2 : B ^ 8 ≤ 16 ^ 8 := Nat.pow_le_pow_left hB 8
  exact Nat.le_trans h1 h2
/-- a letter's small form -/
def low (c : Nat) : Int := bits .or .u8 (c : Int) 32
set_option maxRecDepth 100000 in
theorem low_ways16 : ∀ c < 256, ¬ (48 ≤ c ∧ c ≤ 57) → (97 ≤ low c ∧ low c ≤ 102 ∧ digv 16 c = some (low c - 87).toNat) ∨ (digv 16 c = none ∧ (low c < 97 ∨ 102 < low c)) := by decide +kernel
set_option maxRecDepth 100000 in
theorem low_ways10 : ∀ c < 256, ¬ (48 ≤ c ∧ c ≤ 57) → (97 ≤ low c ∧ low c ≤ 96 ∧ digv 10 c = some (low c - 87).toNat) ∨ (digv 10 c = none ∧ (low c < 97 ∨ 96 < low c)) := by decide +kernel
set_option maxRecDepth 100000 in
theorem low_lt : ∀ c < 256, 0 ≤ low c ∧ low c < 256 := by decide +kernel
set_option maxRecDepth 100000 in
theorem lower_any (c : Nat) (w : World) : Calls Tryz.prog 126 #[.int .u8 (c : Int)] w fun e w' => e = .returned (.int .u8 (low c)) ∧ w = w' := by
  go_enter Tryz.func126, Tryz.ntmps126
  go_wp2
  go_ret
  exact ⟨rfl, rfl⟩

theorem lower95 (w : World) : Calls Tryz.prog 126 #[.int .u8 95] w fun e w' => e = .returned (.int .u8 127) ∧ w = w' := lower_any 95 w
set_option maxHeartbeats 8000000 in
set_option maxRecDepth 100000 in
theorem inner10 (t : ByteArray) (hne : t.size ≠ 0) (hmax : t.size ≤ 8) (w : World) :
    Calls Tryz.prog 123 #[.string t, .int .i64 10, .int .i64 32] w fun e w' => e = .returned (inV (numA 10 0 t.data.toList)) ∧ w' = Lib.bytesWorld w 5 t := by
  have hemp : t.toList.isEmpty = false := by
    rw [← decide_eq_emptyBytes]
    exact decide_eq_false (fun h => hne (by rw [h]; rfl))
  have hcv := Lib.run_convert_string_bytes (P := Tryz.prog) w 9 42 5 t (u := .string) Tryz.underlying9 Tryz.underlying42 Tryz.underlying5
  have hB : ∀ j, j < t.size → (Lib.bytesWorld w 5 t).cell? ⟨w.heap.size, j, none⟩ = some (.int .u8 (t.data.toList.getD j 0).toNat) := fun j hj => Lib.bytesWorld_cell w 5 t j hj
  obtain ⟨W1, hW1⟩ : ∃ W1, W1 = Lib.bytesWorld w 5 t := ⟨_, rfl⟩
  rw [← hW1] at hcv hB ⊢
  clear hW1
  obtain ⟨bs, hL⟩ : ∃ bs, bs = t.data.toList := ⟨_, rfl⟩
  have hLn : bs.length = t.size := by rw [hL, Lib.size_eq]
  rw [← hL] at hB ⊢
  clear hL
  have hmv : IntKind.u64.wrap (IntKind.u64.wrap 4294967296 - 1) = 4294967295 := by
    rw [IntKind.wrap_u64, IntKind.wrap_u64]
    decide
  go_enter Tryz.func123, Tryz.ntmps123
  go_wp2
  go_loop [12, 13, 101] (fun vu vn vi => ∃ (k : Nat) (a : Int), vu = .bool false ∧ vn = .int .u64 a ∧ vi = .int .i64 k ∧ k ≤ t.size ∧ Hid (∃ acc : Nat, a = (acc : Int) ∧ acc < 10 ^ k ∧ numA 10 0 bs = numA 10 acc (bs.drop k)))
    (fun _ _ vi => t.size - (intOf vi).toNat)
  case atStart => exact ⟨0, 0, rfl, rfl, rfl, by omega, 0, rfl, by decide, rfl⟩
  case round =>
    obtain ⟨k, a, rfl, rfl, rfl, hk, hh⟩ := hrel
    obtain ⟨acc, ha, hacc, hdec⟩ := hh.out
    clear hh
    by_cases hkn : k < t.size
    · have hc := hB k hkn
      have hdrop : bs.drop k = bs[k]'(by omega) :: bs.drop (k + 1) := List.drop_eq_getElem_cons (by omega)
      have hget : bs.getD k 0 = bs[k]'(by omega) := by simp [List.getD, List.getElem?_eq_getElem (show k < bs.length by omega)]
      rw [hdrop] at hdec
      rw [hget] at hc
      generalize bs[k]'(by omega) = c at hc hdec
      have hc256 : c.toNat < 256 := c.toNat_lt
      have hpk := pow_small (B := 10) (k := k) (by omega) (by omega) (by omega)
      have hpk1 := pow_small (B := 10) (k := k + 1) (by omega) (by omega) (by omega)
      simp only [numA] at hdec
      generalize c.toNat = c at *
      clear hB hdrop hget
      have a0 : 0 ≤ a := by omega
      have a1 : a ≤ 4294967295 := by omega
      by_cases hdig : 48 ≤ c ∧ c ≤ 57
      · have hd : digv 10 c = some (c - 48) := by unfold digv; simp [hdig]; omega
        rw [hd] at hdec
        simp only at hdec
        have hacc1 := pow_acc (B := 10) (by omega) hacc (digv_lt hd)
        have HN : Hid (∃ acc : Nat, a * 10 + ((c : Int) - 48) = (acc : Int) ∧ acc < 10 ^ (k + 1) ∧ numA 10 0 bs = numA 10 acc (bs.drop (k + 1))) := Lib.hid ⟨acc * 10 + (c - 48), by omega, hacc1, hdec⟩
        obtain ⟨hd0, hd1⟩ := hdig
        have iov : a * 10 + ((c : Int) - 48) ≤ 4294967295 := by omega
        clear hacc hdec ha hacc1 hd hpk hpk1
        go_wp2
        refine ⟨⟨k + 1, a * 10 + ((c : Int) - 48), rfl, (by first | rfl | (congr 1; omega)), (by first | rfl | (congr 1; omega)), by omega, HN⟩, by simp [intOf]; omega⟩
      · have hl := low_lt c hc256
        have HLW := Lib.hid (fun W => lower_any c W)
        have hno : ¬ ((48 : Int) ≤ (c : Int) ∧ (c : Int) ≤ 57) := by omega
        by_cases g95 : c = 95
        · subst g95
          have hd : digv 10 95 = none := by decide
          rw [hd] at hdec
          simp only at hdec
          have HD := Lib.hid hdec
          clear hacc hdec ha hd hpk hpk1 hdig HLW hl hno hc256
          go_wp2_with (go_at_call 126; refine (lower95 _).mono ?_; rintro e w' ⟨rfl, rfl⟩)
          all_goals go_ret2
          all_goals exact ⟨by rw [HD.out]; rfl, rfl⟩
        have n95 : ((c : Int) == 95) = false := by simp; omega
        rcases low_ways10 c hc256 hdig with ⟨h1, h2, hd⟩ | ⟨hd, hz⟩
        · rw [hd] at hdec
          simp only at hdec
          have hacc1 := pow_acc (B := 10) (by omega) hacc (digv_lt hd)
          generalize low c = z at *
          have HN : Hid (∃ acc : Nat, a * 10 + (z - 87) = (acc : Int) ∧ acc < 10 ^ (k + 1) ∧ numA 10 0 bs = numA 10 acc (bs.drop (k + 1))) := Lib.hid ⟨acc * 10 + (z - 87).toNat, by omega, hacc1, hdec⟩
          have iov : a * 10 + (z - 87) ≤ 4294967295 := by omega
          clear hacc hdec ha hacc1 hd hpk hpk1 hdig
          by_cases g48 : 48 ≤ c
          · have g57 : ¬ (c : Int) ≤ 57 := by omega
            have g48z : (48 : Int) ≤ (c : Int) := by omega
            go_wp2_with (go_at_call 126; refine (HLW.out _).mono ?_; rintro e w' ⟨rfl, rfl⟩)
            all_goals refine ⟨⟨k + 1, a * 10 + (z - 87), rfl, (by first | rfl | (congr 1; omega)), (by first | rfl | (congr 1; omega)), by omega, HN⟩, by simp [intOf]; omega⟩
          · have g48z : ¬ (48 : Int) ≤ (c : Int) := by omega
            go_wp2_with (go_at_call 126; refine (HLW.out _).mono ?_; rintro e w' ⟨rfl, rfl⟩)
            all_goals refine ⟨⟨k + 1, a * 10 + (z - 87), rfl, (by first | rfl | (congr 1; omega)), (by first | rfl | (congr 1; omega)), by omega, HN⟩, by simp [intOf]; omega⟩
        · rw [hd] at hdec
          simp only at hdec
          have HD := Lib.hid hdec
          generalize low c = z at *
          clear hacc hdec ha hd hpk hpk1 hdig
          go_wp2_with (go_at_call 126; refine (HLW.out _).mono ?_; rintro e w' ⟨rfl, rfl⟩)
          all_goals go_ret2
          all_goals exact ⟨by rw [HD.out]; rfl, rfl⟩
    · have hkk : k = t.size := by omega
      subst hkk
      have hF : numA 10 acc (bs.drop t.size) = some acc := by rw [List.drop_eq_nil_of_le (by omega)]; rfl
      rw [hF] at hdec
      have HD := Lib.hid hdec
      subst ha
      clear hacc hF hdec
      go_wp2
      go_ret2
      exact ⟨by rw [HD.out]; rfl, rfl⟩

set_option maxHeartbeats 8000000 in
set_option maxRecDepth 100000 in
theorem inner16 (t : ByteArray) (hne : t.size ≠ 0) (hmax : t.size ≤ 8) (w : World) :
    Calls Tryz.prog 123 #[.string t, .int .i64 16, .int .i64 32] w fun e w' => e = .returned (inV (numA 16 0 t.data.toList)) ∧ w' = Lib.bytesWorld w 5 t := by
  have hemp : t.toList.isEmpty = false := by
    rw [← decide_eq_emptyBytes]
    exact decide_eq_false (fun h => hne (by rw [h]; rfl))
  have hcv := Lib.run_convert_string_bytes (P := Tryz.prog) w 9 42 5 t (u := .string) Tryz.underlying9 Tryz.underlying42 Tryz.underlying5
  have hB : ∀ j, j < t.size → (Lib.bytesWorld w 5 t).cell? ⟨w.heap.size, j, none⟩ = some (.int .u8 (t.data.toList.getD j 0).toNat) := fun j hj => Lib.bytesWorld_cell w 5 t j hj
  obtain ⟨W1, hW1⟩ : ∃ W1, W1 = Lib.bytesWorld w 5 t := ⟨_, rfl⟩
  rw [← hW1] at hcv hB ⊢
  clear hW1
  obtain ⟨bs, hL⟩ : ∃ bs, bs = t.data.toList := ⟨_, rfl⟩
  have hLn : bs.length = t.size := by rw [hL, Lib.size_eq]
  rw [← hL] at hB ⊢
  clear hL
  have hmv : IntKind.u64.wrap (IntKind.u64.wrap 4294967296 - 1) = 4294967295 := by
    rw [IntKind.wrap_u64, IntKind.wrap_u64]
    decide
  go_enter Tryz.func123, Tryz.ntmps123
  go_wp2
  go_loop [12, 13, 101] (fun vu vn vi => ∃ (k : Nat) (a : Int), vu = .bool false ∧ vn = .int .u64 a ∧ vi = .int .i64 k ∧ k ≤ t.size ∧ Hid (∃ acc : Nat, a = (acc : Int) ∧ acc < 16 ^ k ∧ numA 16 0 bs = numA 16 acc (bs.drop k)))
    (fun _ _ vi => t.size - (intOf vi).toNat)
  case atStart => exact ⟨0, 0, rfl, rfl, rfl, by omega, 0, rfl, by decide, rfl⟩
  case round =>
    obtain ⟨k, a, rfl, rfl, rfl, hk, hh⟩ := hrel
    obtain ⟨acc, ha, hacc, hdec⟩ := hh.out
    clear hh
    by_cases hkn : k < t.size
    · have hc := hB k hkn
      have hdrop : bs.drop k = bs[k]'(by omega) :: bs.drop (k + 1) := List.drop_eq_getElem_cons (by omega)
      have hget : bs.getD k 0 = bs[k]'(by omega) := by simp [List.getD, List.getElem?_eq_getElem (show k < bs.length by omega)]
      rw [hdrop] at hdec
      rw [hget] at hc
      generalize bs[k]'(by omega) = c at hc hdec
      have hc256 : c.toNat < 256 := c.toNat_lt
      have hpk := pow_small (B := 16) (k := k) (by omega) (by omega) (by omega)
      have hpk1 := pow_small (B := 16) (k := k + 1) (by omega) (by omega) (by omega)
      simp only [numA] at hdec
      generalize c.toNat = c at *
      clear hB hdrop hget
      have a0 : 0 ≤ a := by omega
      have a1 : a ≤ 4294967295 := by omega
      by_cases hdig : 48 ≤ c ∧ c ≤ 57
      · have hd : digv 16 c = some (c - 48) := by unfold digv; simp [hdig]; omega
        rw [hd] at hdec
        simp only at hdec
        have hacc1 := pow_acc (B := 16) (by omega) hacc (digv_lt hd)
        have HN : Hid (∃ acc : Nat, a * 16 + ((c : Int) - 48) = (acc : Int) ∧ acc < 16 ^ (k + 1) ∧ numA 16 0 bs = numA 16 acc (bs.drop (k + 1))) := Lib.hid ⟨acc * 16 + (c - 48), by omega, hacc1, hdec⟩
        obtain ⟨hd0, hd1⟩ := hdig
        have iov : a * 16 + ((c : Int) - 48) ≤ 4294967295 := by omega
        clear hacc hdec ha hacc1 hd hpk hpk1
        go_wp2
        refine ⟨⟨k + 1, a * 16 + ((c : Int) - 48), rfl, (by first | rfl | (congr 1; omega)), (by first | rfl | (congr 1; omega)), by omega, HN⟩, by simp [intOf]; omega⟩
      · have hl := low_lt c hc256
        have HLW := Lib.hid (fun W => lower_any c W)
        have hno : ¬ ((48 : Int) ≤ (c : Int) ∧ (c : Int) ≤ 57) := by omega
        by_cases g95 : c = 95
        · subst g95
          have hd : digv 16 95 = none := by decide
          rw [hd] at hdec
          simp only at hdec
          have HD := Lib.hid hdec
          clear hacc hdec ha hd hpk hpk1 hdig HLW hl hno hc256
          go_wp2_with (go_at_call 126; refine (lower95 _).mono ?_; rintro e w' ⟨rfl, rfl⟩)
          all_goals go_ret2
          all_goals exact ⟨by rw [HD.out]; rfl, rfl⟩
        have n95 : ((c : Int) == 95) = false := by simp; omega
        rcases low_ways16 c hc256 hdig with ⟨h1, h2, hd⟩ | ⟨hd, hz⟩
        · rw [hd] at hdec
          simp only at hdec
          have hacc1 := pow_acc (B := 16) (by omega) hacc (digv_lt hd)
          generalize low c = z at *
          have HN : Hid (∃ acc : Nat, a * 16 + (z - 87) = (acc : Int) ∧ acc < 16 ^ (k + 1) ∧ numA 16 0 bs = numA 16 acc (bs.drop (k + 1))) := Lib.hid ⟨acc * 16 + (z - 87).toNat, by omega, hacc1, hdec⟩
          have iov : a * 16 + (z - 87) ≤ 4294967295 := by omega
          clear hacc hdec ha hacc1 hd hpk hpk1 hdig
          by_cases g48 : 48 ≤ c
          · have g57 : ¬ (c : Int) ≤ 57 := by omega
            have g48z : (48 : Int) ≤ (c : Int) := by omega
            go_wp2_with (go_at_call 126; refine (HLW.out _).mono ?_; rintro e w' ⟨rfl, rfl⟩)
            all_goals refine ⟨⟨k + 1, a * 16 + (z - 87), rfl, (by first | rfl | (congr 1; omega)), (by first | rfl | (congr 1; omega)), by omega, HN⟩, by simp [intOf]; omega⟩
          · have g48z : ¬ (48 : Int) ≤ (c : Int) := by omega
            go_wp2_with (go_at_call 126; refine (HLW.out _).mono ?_; rintro e w' ⟨rfl, rfl⟩)
            all_goals refine ⟨⟨k + 1, a * 16 + (z - 87), rfl, (by first | rfl | (congr 1; omega)), (by first | rfl | (congr 1; omega)), by omega, HN⟩, by simp [intOf]; omega⟩
        · rw [hd] at hdec
          simp only at hdec
          have HD := Lib.hid hdec
          generalize low c = z at *
          clear hacc hdec ha hd hpk hpk1 hdig
          go_wp2_with (go_at_call 126; refine (HLW.out _).mono ?_; rintro e w' ⟨rfl, rfl⟩)
          all_goals go_ret2
          all_goals exact ⟨by rw [HD.out]; rfl, rfl⟩
    · have hkk : k = t.size := by omega
      subst hkk
      have hF : numA 16 acc (bs.drop t.size) = some acc := by rw [List.drop_eq_nil_of_le (by omega)]; rfl
      rw [hF] at hdec
      have HD := Lib.hid hdec
      subst ha
      clear hacc hF hdec
      go_wp2
      go_ret2
      exact ⟨by rw [HD.out]; rfl, rfl⟩
end Go.Proofs.YtbokcihlbpeagaaGreatDoor
