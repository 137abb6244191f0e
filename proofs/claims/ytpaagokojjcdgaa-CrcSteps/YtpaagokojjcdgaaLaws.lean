/-
  What is proved: the walks of the laws CrcSteps, CrcBack and CrcJoins: for every sum and all bytes they return true and turn nothing that was there. Conditions: lengths are within Go's own reach.
-/
import Derived.Test.YtpaagokojjcdgaaAwake
namespace Go.Proofs.Ytpaagokojjcdgaa
open Go.RowKit

set_option maxHeartbeats 400000 in
theorem crcSteps_walk (c b : Nat) (w : World) (hc : c < 4294967296) (hb : b < 256) :
    Calls Try.prog 3 #[.int .u32 (c : Int), .int .u8 (b : Int)] w fun e w' => e = .returned (.bool true) ∧ Below w.heap.size w w' := by
  go_enter Try.func3, Try.ntmps3
  go_wp2_with fail
  refine (awake_any w).mono ?_
  rintro e w1 ⟨rfl, b1⟩
  go_wp2_with fail
  refine (step_any c b w1 hc hb).mono ?_
  rintro e w2 ⟨rfl, rfl⟩
  go_wp2_with fail
  refine (refStep_any c b w1 hc hb).mono ?_
  rintro e w2 ⟨rfl, rfl⟩
  go_wp2
  go_ret
  exact ⟨rfl, b1⟩

theorem run_beq (l : List UInt8) (c d : Nat) (hc : c < 4294967296) (hd : d < 4294967296) : (((run c l : Nat) : Int) == ((run d l : Nat) : Int)) = ((c : Int) == (d : Int)) := by
  rw [Bool.eq_iff_iff]
  simp only [beq_iff_eq, Int.natCast_inj]
  exact run_inj l hc hd

set_option maxHeartbeats 1000000 in
theorem crcBack_walk (c d : Nat) (A : Option Addr) (n cp : Nat) (l : List UInt8) (w : World) (hc : c < 4294967296) (hd : d < 4294967296) (h : Hold w A n cp l) (hn : n ≤ 140737488355328) :
    Calls Try.prog 7 #[.int .u32 (c : Int), .int .u32 (d : Int), .slice A n cp] w fun e w' => e = .returned (.bool true) ∧ Below w.heap.size w w' := by
  have H := Lib.hid h
  clear h
  by_cases hbig : 1048576 < n
  · go_enter Try.func7, Try.ntmps7
    go_wp2_with fail
    refine (awake_any w).mono ?_
    rintro e w1 ⟨rfl, b1⟩
    go_wp2_with fail
    refine (awake_any w1).mono ?_
    rintro e w2 ⟨rfl, b2⟩
    go_wp2
    go_ret
    exact ⟨rfl, b1.trans (b2.mono b1.size)⟩
  · go_enter Try.func7, Try.ntmps7
    go_wp2_with fail
    refine (awake_any w).mono ?_
    rintro e w1 ⟨rfl, b1⟩
    have H1 := Lib.hid (H.out.below b1)
    have hln := Lib.hid H.out.1
    clear H
    go_wp2
    go_loop [7, 8, 9] (fun x y i => ∃ k : Nat, k ≤ n ∧ i = .int .i64 k ∧ x = .int .u32 ((run c (l.take k) : Nat) : Int) ∧ y = .int .u32 ((run d (l.take k) : Nat) : Int)) (fun _ _ i => n - (intOf i).toNat)
    case atStart => exact ⟨0, by omega, rfl, rfl, rfl⟩
    case round =>
      obtain ⟨k, hk, rfl, rfl, rfl⟩ := hrel
      by_cases hlt : k < n
      · have hX := run_lt (l.take k) hc
        have hY := run_lt (l.take k) hd
        obtain ⟨b, off, hkl, rfl, hcell⟩ := H1.out.at hlt
        have HS := Lib.hid (take_snoc l k hkl c)
        have HT := Lib.hid (take_snoc l k hkl d)
        have hb := UInt8.toNat_lt l[k]
        generalize l[k].toNat = y at *
        generalize run c (l.take k) = X at *
        generalize run d (l.take k) = Y at *
        go_wp2_with fail
        refine (step_any X y w1 hX hb).mono ?_
        rintro e w2 ⟨rfl, rfl⟩
        go_wp2_with fail
        refine (step_any Y y w1 hY hb).mono ?_
        rintro e w2 ⟨rfl, rfl⟩
        go_wp2
        go_round
        case rel => exact ⟨k + 1, by omega, by go_num, by rw [HS.out], by rw [HT.out]⟩
        case measure => simp [intOf]; omega
      · obtain rfl : k = n := by omega
        have ht : l.take k = l := by rw [← hln.out, List.take_length]
        rw [ht]
        clear ht
        have hq := run_beq l c d hc hd
        generalize run c l = X at *
        generalize run d l = Y at *
        go_wp2
        go_ret
        exact ⟨rfl, b1⟩

set_option maxHeartbeats 1000000 in
theorem crcJoins_walk (A A2 : Option Addr) (n c n2 c2 : Nat) (l l2 : List UInt8) (w : World) (h : Hold w A n c l) (h2 : Hold w A2 n2 c2 l2) (hn : n ≤ 140737488355328) (hn2 : n2 ≤ 140737488355328) :
    Calls Try.prog 5 #[.slice A n c, .slice A2 n2 c2] w fun e w' => e = .returned (.bool true) ∧ Below w.heap.size w w' := by
  have H := Lib.hid h
  have H2 := Lib.hid h2
  clear h h2
  by_cases hbig : 524288 < n
  · go_enter Try.func5, Try.ntmps5
    go_wp2_with fail
    refine (awake_any w).mono ?_
    rintro e w1 ⟨rfl, b1⟩
    go_wp2_with fail
    refine (awake_any w1).mono ?_
    rintro e w2 ⟨rfl, b2⟩
    go_wp2
    go_ret
    exact ⟨rfl, b1.trans (b2.mono b1.size)⟩
  by_cases hbig2 : 524288 < n2
  · go_enter Try.func5, Try.ntmps5
    go_wp2_with fail
    refine (awake_any w).mono ?_
    rintro e w1 ⟨rfl, b1⟩
    go_wp2_with fail
    refine (awake_any w1).mono ?_
    rintro e w2 ⟨rfl, b2⟩
    go_wp2
    go_ret
    exact ⟨rfl, b1.trans (b2.mono b1.size)⟩
  go_enter Try.func5, Try.ntmps5
  go_wp2_with fail
  refine (awake_any w).mono ?_
  rintro e w1 ⟨rfl, b1⟩
  have G := Lib.hid (H.out.below b1)
  have G2 := Lib.hid (H2.out.below b1)
  have hln := Lib.hid H2.out.1
  have hcj := Lib.hid (crc_join l l2)
  have hl1 := crc_lt l
  have hl2 := crc_lt l2
  clear H H2
  go_wp2_with fail
  refine (sum_one A n c l w1 G.out hn _ rfl).mono ?_
  rintro e w2 ⟨rfl, rfl⟩
  go_wp2_with fail
  refine (sum_one A2 n2 c2 l2 _ (G2.out.below ((Below.refl _ _).alloc (Nat.le_refl _) _)) hn2 _ (by simp)).mono ?_
  rintro e w2 ⟨rfl, rfl⟩
  have hm : (n2 : Int) ≤ 1048576 := by omega
  go_wp2_with fail
  refine (join_any (crc l) (crc l2) n2 _ hl1 hl2 (by omega)).mono ?_
  rintro e w2 ⟨rfl, rfl⟩
  have e2 : zs n2 (crc l) ^^^ crc l2 = crc (l ++ l2) := by rw [← hcj.out, hln.out]
  rw [e2]
  clear e2 hm
  go_wp2_with fail
  refine (sum_two A A2 n c n2 c2 l l2 _ (G.out.below ?_) (G2.out.below ?_) hn hn2 _ (by simp)).mono ?_
  · exact ((Below.refl _ _).alloc (Nat.le_refl _) _).alloc (by simp) _
  · exact ((Below.refl _ _).alloc (Nat.le_refl _) _).alloc (by simp) _
  rintro e w2 ⟨rfl, rfl⟩
  go_wp2
  go_ret
  have hs := b1.size
  exact ⟨rfl, ((b1.alloc hs _).alloc (by simp; omega) _).alloc (by simp; omega) _⟩
end Go.Proofs.Ytpaagokojjcdgaa
