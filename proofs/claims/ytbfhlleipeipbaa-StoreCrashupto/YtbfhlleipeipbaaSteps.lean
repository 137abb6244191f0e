/-
  What is proved: what a step, the document's step, the document's sum, the sum of parts and the joining of two sums answer; each turns nothing.
-/
import Derived.Test.YtbfhlleipeipbaaOwn
import Derived.Test.YtbfhlleipeipbaaSums
import Derived.Laws.BitsAllLaws
import Derived.LoopN
namespace Go.Proofs.Ytbfhlleipeipbaa
open Go.RowKit

theorem xor_u32 (a b : Nat) (h : a < 4294967296) (k : b < 4294967296) : bits .xor .u32 (a : Int) (b : Int) = ((a ^^^ b : Nat) : Int) := u32_xor_nat a b h k
theorem and1_u32 (a : Nat) (h : a < 4294967296) : bits .and .u32 (a : Int) 1 = ((a % 2 : Nat) : Int) := by
  have := u32_and_nat a 1 h (by decide)
  rw [Nat.and_one_is_mod] at this
  exact this
theorem half_odd {a : Nat} (h : a % 2 = 1) (hl : a < 4294967296) : bits .xor .u32 ((a : Int) / 2) 3988292384 = ((half a : Nat) : Int) := by
  have e : ((a : Int) / 2) = ((a / 2 : Nat) : Int) := by omega
  have := u32_xor_nat (a / 2) 3988292384 (by omega) (by decide)
  unfold half
  rw [if_pos h, e]
  exact this
theorem half_even {a : Nat} (h : ¬ a % 2 = 1) : ((a : Int) / 2) = ((half a : Nat) : Int) := by
  unfold half
  rw [if_neg h]
  omega

set_option maxHeartbeats 400000 in
theorem step_any (c b : Nat) (w : World) (hc : c < 4294967296) (hb : b < 256) :
    Calls Try.prog 104 #[.int .u32 (c : Int), .int .u8 (b : Int)] w fun e w' => e = .returned (.int .u32 ((stp c b : Nat) : Int)) ∧ w = w' := by
  have hx := xor_u32 c b hc (by omega)
  have HL := Lib.hid (it_lt (xor_lt32 hc (show b < 4294967296 by omega)))
  go_enter Try.func104, Try.ntmps104
  go_wp2
  go_loop [0, 10] (fun x i => ∃ k : Nat, k ≤ 8 ∧ i = .int .i64 k ∧ x = .int .u32 ((it k (c ^^^ b) : Nat) : Int)) (fun _ i => 8 - (intOf i).toNat)
  case atStart => exact ⟨0, by omega, rfl, rfl⟩
  case round =>
    obtain ⟨k, hk, rfl, rfl⟩ := hrel
    clear hx
    by_cases hlt : k < 8
    · have hX := HL.out k
      have HS : Hid (it (k + 1) (c ^^^ b) = half (it k (c ^^^ b))) := Lib.hid rfl
      generalize it k (c ^^^ b) = X at *
      have h1 := and1_u32 X hX
      by_cases ho : X % 2 = 1
      · have h2 := half_odd ho hX
        rw [ho] at h1
        go_wp2
        go_round
        case rel => exact ⟨k + 1, by omega, by go_num, by rw [HS.out]⟩
        case measure => simp [intOf]; omega
      · have h2 := half_even ho
        have h0 : X % 2 = 0 := by omega
        rw [h0] at h1
        go_wp2
        go_round
        case rel => exact ⟨k + 1, by omega, by go_num, by rw [HS.out]⟩
        case measure => simp [intOf]; omega
    · obtain rfl : k = 8 := by omega
      go_wp2
      go_ret
      exact ⟨rfl, rfl⟩

theorem take_snoc (l : List UInt8) (k : Nat) (h : k < l.length) (c : Nat) : run c (l.take (k + 1)) = stp (run c (l.take k)) l[k].toNat := by
  rw [List.take_succ_eq_append_getElem h, run_snoc]

set_option maxHeartbeats 1000000 in
theorem sum_any (B : Option Addr) (N C : Nat) (ps : List Part) (w : World) (h : Parts w B N ps) (hN : N ≤ 140737488355328) :
    Calls Try.prog 102 #[.slice B N C] w fun e w' => e = .returned (.int .u32 ((crc (cat ps) : Nat) : Int)) ∧ w = w' := by
  have H := Lib.hid h
  have hln := Lib.hid h.1
  clear h
  go_enter Try.func102, Try.ntmps102
  go_wp2
  go_loop [3, 10] (fun x i => ∃ k : Nat, k ≤ N ∧ i = .int .i64 k ∧ x = .int .u32 ((run 4294967295 (cat (ps.take k)) : Nat) : Int)) (fun _ i => N - (intOf i).toNat)
  case atStart => exact ⟨0, by omega, rfl, rfl⟩
  case round =>
    obtain ⟨k, hk, rfl, rfl⟩ := hrel
    have hX := run_lt (cat (ps.take k)) (c := 4294967295) (by decide)
    by_cases hlt : k < N
    · obtain ⟨b, off, hkl, rfl, hcell, hh, hn⟩ := H.out.at hlt
      have HS := Lib.hid (congrArg (run 4294967295) (cat_snoc ps k hkl))
      generalize ps[k] = p at *
      obtain ⟨A, n, c, l⟩ := p
      simp only [Part.val] at hcell hh hn HS
      have HH := Lib.hid hh
      have hlen := Lib.hid hh.1
      clear hh
      have HR := Lib.hid (run_append 4294967295 (cat (ps.take k)) l)
      generalize run 4294967295 (cat (ps.take k)) = X at *
      go_wp2
      go_loop [3, 16] (fun x i => ∃ j : Nat, j ≤ n ∧ i = .int .i64 j ∧ x = .int .u32 ((run X (l.take j) : Nat) : Int)) (fun _ i => n - (intOf i).toNat)
      case atStart => exact ⟨0, by omega, rfl, rfl⟩
      case round =>
        obtain ⟨j, hj, rfl, rfl⟩ := hrel
        have hY := run_lt (l.take j) hX
        by_cases hjl : j < n
        · obtain ⟨b2, off2, hjl2, rfl, hcell2⟩ := HH.out.at hjl
          have HT := Lib.hid (take_snoc l j hjl2 X)
          have hb := UInt8.toNat_lt l[j]
          generalize l[j].toNat = y at *
          generalize run X (l.take j) = Y at *
          go_wp2_with (go_at_call 104; refine (step_any Y y _ hY hb).mono ?_; rintro e w' ⟨rfl, rfl⟩)
          go_round
          case rel => exact ⟨j + 1, by omega, by go_num, by rw [HT.out]⟩
          case measure => simp [intOf]; omega
        · obtain rfl : j = n := by omega
          have ht : l.take j = l := by rw [← hlen.out, List.take_length]
          rw [ht]
          clear ht
          go_wp2
          go_round
          case rel => exact ⟨k + 1, by omega, by go_num, by rw [HS.out, HR.out]⟩
          case measure => simp [intOf]; omega
    · obtain rfl : k = N := by omega
      have ht : ps.take k = ps := by rw [← hln.out, List.take_length]
      rw [ht] at hX ⊢
      have hx := xor_u32 (run 4294967295 (cat ps)) 4294967295 hX (by decide)
      simp only [Int.cast_ofNat_Int] at hx
      clear ht
      go_wp2
      go_ret
      exact ⟨rfl, rfl⟩

end Go.Proofs.Ytbfhlleipeipbaa
