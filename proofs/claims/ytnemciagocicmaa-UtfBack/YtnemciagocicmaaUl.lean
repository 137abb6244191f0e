/-
  What is proved: the walk of the law UtfBack: it returns true and turns nothing that was there. Conditions: the list is within Go's own reach.
-/
import Derived.Test.YtnemciagocicmaaUk
namespace Go.Proofs.Ytnemciagocicmaa
open Go.RowKit

theorem lit_cells (w : World) (v : Value) (t : TypeId) : ∀ j u, [v][j]? = some u → (w.alloc (.cells #[v] t)).cell? ((⟨w.heap.size, 0, none⟩ : Addr).add j) = some u := by
  intro j u hu
  match j, hu with
  | 0, hu =>
    obtain rfl : v = u := by simpa using hu
    rw [Addr.add_lit, cell_of_row _ w.heap.size (0 + 0) #[v] t (0, 0) (heap_alloc_new w _)]
    rfl
theorem own_size {w : World} {base n e : Nat} {v : Value} {xs : List Value} (h : w.ownsRow base e 1 v n xs) : xs.length = n := by
  have := h.1
  omega
set_option maxRecDepth 100000 in
set_option maxHeartbeats 4000000 in
theorem utfBack_walk (A : Option Addr) (n c : Nat) (xs : List Int) (w : World) (h : HoldI w A n xs) (hn : n ≤ 140737488355328) :
    Calls Try.prog 5 #[.slice A n c] w fun e w' => e = .returned (.bool true) ∧ Below w.heap.size w w' := by
  have H := Lib.hid h
  have hlen := Lib.hid h.1
  clear h
  by_cases hbig : n > 100000
  · go_enter Try.func5, Try.ntmps5
    go_wp2_with (first
      | (go_at_call 8; refine (awake_any w).mono ?_; rintro e w1 ⟨rfl, hb1⟩; have HB1 := Lib.hid hb1; clear hb1)
      | (go_at_call 8; refine (awake_any w1).mono ?_; rintro e w2 ⟨rfl, hb2⟩; have HB2 := Lib.hid hb2; clear hb2))
    go_ret
    exact ⟨rfl, HB1.out.trans (HB2.out.mono HB1.out.size)⟩
  obtain ⟨i0, hi, hz0, hz1, hz2⟩ := info_parts Try.info5
  obtain ⟨j0, hj, hy0, hy1, hy2⟩ := info_parts Try.info21
  have HI5 := Lib.hid (And.intro hi (And.intro hz0 (And.intro hz1 hz2)))
  have HI21 := Lib.hid (And.intro hj (And.intro hy0 (And.intro hy1 hy2)))
  clear hi hz0 hz1 hz2 hj hy0 hy1 hy2
  go_enter Try.func5, Try.ntmps5
  go_wp2_with (go_at_call 8; refine (awake_any w).mono ?_; rintro e w1 ⟨rfl, hb1⟩; have HB1 := Lib.hid hb1; clear hb1)
  go_loopg [3, 4, 5] n (fun kx v3 v4 v5 wr => ∃ (i n3 n4 : Nat), v5 = .int .i64 (i : Int) ∧ i ≤ n ∧ n - i ≤ kx ∧ n3 ≤ 4 * i ∧ n4 ≤ i ∧ Hid (Bk w xs v3 v4 n3 n4 (bytesOfL (xs.take i)) (keptL (xs.take i)) wr))
  case atStart => exact ⟨0, 0, 0, rfl, Nat.zero_le _, by omega, by omega, by omega, Lib.hid ⟨World.ownsRow_nil _ _ _ _, World.ownsRow_nil _ _ _ _, HB1.out⟩⟩
  case round =>
    obtain ⟨i, n3, n4, rfl, hin, hkx, hn3, hn4, HK⟩ := hrel
    by_cases hlt : i < n
    · obtain ⟨b, off, hl, rfl, hc⟩ := (H.out.below HK.out.bel).at hlt
      have HS := Lib.hid (bytes_snoc xs i hl)
      have HY := Lib.hid (kept_yes xs i hl)
      have HN := Lib.hid (kept_no xs i hl)
      generalize xs[i] = x at *
      have hsz : (put x).length ≤ 4 := by
        rw [put_length]
        by_cases hR : isR x
        · exact (sz_pos hR).2
        · rw [sz_not hR]; omega
      obtain ⟨A4, c4, rfl⟩ := own_formI HK.out.k
      obtain ⟨A3, c3, rfl⟩ := own_formI HK.out.b
      by_cases hR : isR x
      · have hp1 : (put x == []) = false := by simpa using put_ne.2 hR
        have hp2 : (put x != []) = true := by simpa using put_ne.2 hR
        have HSX : Hid ((⟨(put x).toArray⟩ : ByteArray).size = (put x).length) := Lib.hid (back_size _)
        go_wp2_with (first
          | (go_at_call 9; refine (put_any x wr).mono ?_; rintro e w2 ⟨rfl, hb2⟩; have HK2 := Lib.hid (HK.out.called hb2); have hc2 := cell_later hb2 hc; clear hb2 HK hc)
          | (at_builtin; refine wpList_append_own _ rfl (.tmp 35) (.tmp 40) 31 rfl w.heap.size 21 j0 (.int .i32 0) 1 4 Try.underlying31 HI21.out.1 HI21.out.2.1 HI21.out.2.2.1 HI21.out.2.2.2 rfl (by decide) (.slice A4 n4 c4) n4 (iv (keptL (xs.take i))) rfl ((HK2.out.called ((Below.refl _ _).alloc (Nat.le_refl _) _)).k) ⟨w2.heap.size, 0, none⟩ 1 1 [.int .i32 x] rfl rfl (lit_cells _ _ _) (by simp [Value.oneCell']) (by unfold maxLen; omega) (by omega) ((HK2.out.called ((Below.refl _ _).alloc (Nat.le_refl _) _)).bel.size) ?_
             intro v4 w3 ho3 hg3 _
             have HK3 := Lib.hid ((HK2.out.called ((Below.refl _ _).alloc (Nat.le_refl _) _)).kept (ks' := keptL (xs.take i) ++ [x]) (by rw [iv_append]; exact ho3) hg3)
             clear ho3 hg3
             obtain ⟨A5, c5, rfl⟩ := own_formI HK3.out.k)
          | (at_builtin; refine Lib.wpList_append_own_string _ rfl (.tmp 42) (.tmp 43) 24 9 rfl w.heap.size 5 i0 Try.underlying24 Try.underlying9 HI5.out.1 HI5.out.2.1 HI5.out.2.2.1 HI5.out.2.2.2 (.slice A3 n3 c3) n3 (bv (bytesOfL (xs.take i))) rfl HK3.out.b ⟨(put x).toArray⟩ rfl (by rw [HSX.out]; unfold maxLen; omega) (by rw [HSX.out]; omega) HK3.out.bel.size ?_
             intro v3 w4 ho4 hg4 _
             have HK4 := Lib.hid (HK3.out.bytes (bs' := bytesOfL (xs.take i) ++ put x) (by rw [bv_append]; exact ho4) hg4)
             clear ho4 hg4
             obtain ⟨A6, c6, rfl⟩ := own_formI HK4.out.b))
        rw [HSX.out] at *
        go_roundg (n - (i + 1))
        case measure => omega
        case rel => exact ⟨i + 1, n3 + (put x).length, n4 + 1, by go_num, by omega, Nat.le_refl _, by omega, by omega, by rw [HS.out, HY.out hR]; exact HK4⟩
      · have HP := Lib.hid (put_not hR)
        go_wp2_with (first
          | (go_at_call 9; refine (put_any x wr).mono ?_; rintro e w2 ⟨rfl, hb2⟩; rw [HP.out]; have HK2 := Lib.hid (HK.out.called hb2); have hc2 := cell_later hb2 hc; clear hb2 HK hc)
          | (at_builtin; refine Lib.wpList_append_own_string _ rfl (.tmp 42) (.tmp 43) 24 9 rfl w.heap.size 5 i0 Try.underlying24 Try.underlying9 HI5.out.1 HI5.out.2.1 HI5.out.2.2.1 HI5.out.2.2.2 (.slice A3 n3 c3) n3 (bv (bytesOfL (xs.take i))) rfl HK2.out.b ⟨[].toArray⟩ rfl (by show n3 + 0 ≤ _; unfold maxLen; omega) (by show n3 + 0 ≤ _; omega) HK2.out.bel.size ?_
             intro v3 w4 ho4 hg4 _
             have HK4 := Lib.hid (HK2.out.bytes (bs' := bytesOfL (xs.take i) ++ put x) (by rw [bv_append, HP.out]; exact ho4) hg4)
             clear ho4 hg4
             obtain ⟨A6, c6, rfl⟩ := own_formI HK4.out.b))
        go_roundg (n - (i + 1))
        case measure => omega
        case rel => exact ⟨i + 1, _, n4, by go_num, by omega, Nat.le_refl _, by show n3 + 0 ≤ _; omega, by omega, by rw [HS.out, HN.out hR]; exact HK4⟩
    · obtain rfl : i = n := by omega
      have hxs : xs.take i = xs := by rw [List.take_of_length_le (by rw [hlen.out]; exact Nat.le_refl _)]
      rw [hxs] at HK
      clear hxs
      obtain ⟨A4, c4, rfl⟩ := own_formI HK.out.k
      obtain ⟨A3, c3, rfl⟩ := own_formI HK.out.b
      have hcv := conv_hold (Hold.of_own HK.out.b)
      have HKI := Lib.hid (HoldI.of_own HK.out.k)
      have HL4 := Lib.hid (show (keptL xs).length = n4 by have := own_size HK.out.k; rwa [iv_length] at this)
      have HL3 := Lib.hid (show (bytesOfL xs).length = n3 by have := own_size HK.out.b; rwa [bv_length] at this)
      have HBK := Lib.hid (bytes_kept xs)
      have HIS := Lib.hid (kept_is xs)
      have HBL := Lib.hid HK.out.bel
      clear HK
      generalize hK : keptL xs = K at *
      clear hK
      rw [HBK.out] at hcv HL3
      have HNX := Lib.hid (back_next K HIS.out)
      have HBD := Lib.hid (back_bad K HIS.out)
      have HZ := Lib.hid ((back_size (bytesOfL K)).trans HL3.out)
      have HTL := Lib.hid (bytes_take_le K)
      have HSN := Lib.hid (fun i h => congrArg List.length (bytes_snoc K i h))
      have HEND := Lib.hid (show bytesOfL (K.take n4) = bytesOfL K by rw [List.take_of_length_le (by rw [HL4.out]; exact Nat.le_refl _)])
      generalize hS : (⟨(bytesOfL K).toArray⟩ : ByteArray) = S at *
      clear hS
      have HN := Lib.hid (fun x W => next_any S x W (by rw [HZ.out]; omega))
      have HBA := Lib.hid (fun W => bad_any S W (by rw [HZ.out]; omega))
      have HOUT := Lib.hid (nxAt_out (s := S) (x := (n3 : Int)) (.inr (by rw [HZ.out]; exact Int.le_refl _)))
      go_wp2
      go_loop [8, 9] (fun v8 v9 => ∃ j q : Nat, j ≤ n4 ∧ v9 = .int .i64 j ∧ v8 = .int .i64 q ∧ q ≤ n3 ∧ Hid ((bytesOfL (K.take j)).length = q)) (fun _ v9 => n4 - (intOf v9).toNat)
      case atStart => exact ⟨0, 0, Nat.zero_le _, rfl, rfl, Nat.zero_le _, Lib.hid (by simp [bytesOfL])⟩
      case round =>
        obtain ⟨j, q, hjn, rfl, rfl, hq, HQ⟩ := hrel
        by_cases hj : j < n4
        · obtain ⟨b, off, hl, rfl, hc⟩ := HKI.out.at hj
          have hnx := HNX.out j hl
          have hsn := HSN.out j hl
          have hpos := sz_pos (HIS.out _ (List.getElem_mem hl))
          have htl := HTL.out (j + 1)
          rw [hsn, List.length_append, put_length, HQ.out, HL3.out] at htl
          rw [List.length_append, put_length, HQ.out] at hsn
          rw [HQ.out] at hnx
          have HX := Lib.hid (HN.out (q : Int))
          rw [hnx] at HX
          have HSN2 := Lib.hid hsn
          clear hsn hnx
          generalize K[j] = r at *
          generalize sz r = m at *
          obtain ⟨hm1, hm4⟩ := hpos
          have e1 : ¬ (m : Int) < 1 := by omega
          have e2 : ¬ (m : Int) > 4 := by omega
          go_wp2_with (go_at_call 17; refine (HX.out _).mono ?_; rintro e w' ⟨rfl, rfl⟩)
          go_round
          case rel => exact ⟨j + 1, q + m, by omega, by go_num, by go_num, by omega, HSN2⟩
          case measure => simp [intOf]; omega
        · obtain rfl : j = n4 := by omega
          obtain rfl : q = n3 := by rw [← HQ.out, HEND.out, HL3.out]
          have HX := Lib.hid (HN.out (q : Int))
          rw [HOUT.out] at HX
          rw [HBD.out] at HBA
          have hZ := HZ.out
          go_wp2_with (first
            | (go_at_call 17; refine (HX.out _).mono ?_; rintro e w' ⟨rfl, rfl⟩)
            | (go_at_call 19; refine (HBA.out _).mono ?_; rintro e w' ⟨rfl, rfl⟩))
          go_ret
          exact ⟨by simp, HBL.out⟩
end Go.Proofs.Ytnemciagocicmaa
