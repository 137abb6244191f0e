/-
  What is proved: the walk of the law DiskKeeps: for all bytes it returns true and turns nothing that was there. Conditions: the number of bytes is within Go's own reach.
-/
import Derived.Test.YtmajmohnnfjiaaaTwo
namespace Go.Proofs.Ytmajmohnnfjiaaa
open Go.RowKit

/-- what the operations of the law's last line yield -/
def kpF (kx gc : Nat) (A : Option Addr) (n c : Nat) (x : List UInt8) : Nat → Value → World → Prop
  | 0, v, _ | 3, v, _ => v = .int .i64 0
  | 7, v, _ => v = .slice (some ⟨kx, 0, none⟩) 64 64
  | 8, v, _ | 11, v, _ => v = .string ⟨x.toArray⟩
  | 9, v, _ => v = .slice A n c
  | 10, v, w => ∃ k, v = .slice (some ⟨k, 0, none⟩) 64 64 ∧ Hold w (some ⟨k, 0, none⟩) 64 64 x
  | 15, v, _ => v = .pointer (some ⟨gc, 0, none⟩)
  | 16, v, _ => v = .int .i64 1
  | _, v, _ => v = .bool true
theorem kpF_mono {kx gc : Nat} {A : Option Addr} {n c : Nat} {x : List UInt8} : ∀ i v w w', kpF kx gc A n c x i v w → Below w.heap.size w w' → kpF kx gc A n c x i v w' := by
  intro i v w w' h hR
  unfold kpF at *
  split at h
  all_goals first
    | exact h
    | (obtain ⟨k, e, h1⟩ := h; exact ⟨k, e, h1.below hR⟩)
theorem kp_state (l : List UInt8) (hl : l.length ≤ 64) : (newSt 2).wErr 1 l.length = 0 ∧ ((newSt 2).wSt 1 l).refuse 1 = 0 ∧ ((newSt 2).wSt 1 l).told 1 = pad l ∧ ((newSt 2).wSt 1 l).buf.length = 1 := by
  have hr : (newSt 2).refuse 1 = 0 := by decide +kernel
  refine ⟨wErr_zero hr hl, ?_⟩
  rw [wSt_zero hr hl]
  refine ⟨?_, ?_, by simp [newSt]⟩
  · unfold D.refuse
    rw [if_neg (by show ¬ tick (-1) = 0; decide), if_neg (by simp [newSt])]
  · simp [D.told, newSt, settle]
theorem wSt_len (s : D) (i : Int) (l : List UInt8) : (s.wSt i l).buf.length ≤ s.buf.length + 1 := by
  unfold D.wSt
  split
  · omega
  · split
    · omega
    · simp

set_option maxRecDepth 100000 in
set_option maxHeartbeats 2000000 in
theorem diskKeeps_walk (A : Option Addr) (n c : Nat) (l : List UInt8) (w : World) (hl : Hold w A n c l) (hn : n ≤ 140737488355328) :
    Calls Try.prog 7 #[.slice A n c] w fun e w' => e = .returned (.bool true) ∧ Below w.heap.size w w' := by
  have HL := Lib.hid hl
  have hll := Lib.hid hl.1
  clear hl
  go_enter Try.func7, Try.ntmps7
  go_wp2_with fail
  refine (new_mine w w 2 (Below.refl _ _)).mono ?_
  rintro e w1 ⟨g, rfl, h1, _, _⟩
  have H1 : Hid (Mine w w1 g (newSt 2)) := h1
  clear h1
  go_wp2_with fail
  refine (awake_any w1).mono ?_
  rintro e w2 ⟨rfl, hb2⟩
  have H2 := Lib.hid (H1.out.below hb2)
  clear H1 hb2
  by_cases h64 : (64 : Int) < (n : Int)
  · go_wp2_with fail
    refine (awake_any w2).mono ?_
    rintro e w3 ⟨rfl, hb3⟩
    have H3 := Lib.hid (H2.out.below hb3).b
    clear hb3 H2
    go_wp2_with fail
    go_ret
    exact ⟨rfl, H3.out⟩
  have hn64 : n ≤ 64 := by omega
  have hst := kp_state l (by rw [hll.out]; exact hn64)
  rw [hll.out] at hst
  have HST := Lib.hid hst
  clear hst
  have HLW2 := Lib.hid (HL.out.below H2.out.b)
  go_wp2_with (at_builtin; refine wpList_append_hold rfl (.tmp 25) (.tmp 26) rfl w2.heap.size (.slice none 0 0) 0 [] rfl (World.ownsRow_nil _ _ _ _) A n c l rfl HLW2.out (by omega) (Nat.le_refl _) ?_; intro Am cm w3 hown3 hgrow3; simp only [Nat.zero_add, List.nil_append] at hown3; have hb3 : Below w2.heap.size w2 w3 := (Below.refl _ _).grown hgrow3 (Nat.le_refl _) (by simp [Value.ownBlock]); have HO3 := Lib.hid hown3; have H3 := Lib.hid (H2.out.below hb3); clear hown3 hgrow3 hb3)
  refine (write_mine H3.out 1 Am n cm l (Hold.of_own HO3.out) (by omega) (by show (0 + 1) * 72 ≤ _; omega)).mono ?_
  rintro e w4 ⟨rfl, h4, ho4⟩
  have H4 := Lib.hid h4
  have HO4 := Lib.hid (own_others HO3.out ho4)
  have hbase : w.heap.size ≤ w2.heap.size := H2.out.b.size
  clear h4 ho4 H3 HO3 H2 HLW2
  have hbl : ((newSt 2).wSt 1 l).buf.length = 1 := HST.out.2.2.2
  generalize (newSt 2).wSt 1 l = s1 at *
  go_wp2_with fail
  go_loopw [5] (fun i wr => ∃ (k : Nat) (xs : List UInt8), k ≤ n ∧ i = .int .i64 (k : Int) ∧ Mine w wr g s1 ∧ wr.ownsRow w2.heap.size 5 1 (.slice Am n cm) n (bv xs)) (fun i _ => n - (intOf i).toNat)
  case atStart => exact ⟨0, l, by omega, rfl, H4.out, HO4.out⟩
  case round =>
    obtain ⟨k, xs, hk, rfl, hM, hO⟩ := hrel
    have HM := Lib.hid hM
    clear hM H4 HO4
    by_cases hlt : k < n
    · obtain ⟨Q, rfl, hQ, ⟨b, hcell⟩, hfr, ⟨C, hC⟩, hset⟩ := own_set hO hlt
      have HSET := Lib.hid hset
      have HCC := Lib.hid hC
      have hbb := b.toNat_lt
      have hk0 : (0 : Int) ≤ (k : Int) := Int.natCast_nonneg _
      have hk1 : (k : Int) < (n : Int) := by omega
      clear hset hC hO
      go_wp2_with fail
      go_roundw
      case rel =>
        obtain ⟨xs', hx'⟩ := HSET.out ((b.toNat : Int) + 1)
        refine ⟨k + 1, xs', by omega, by go_num, ?_, hx'⟩
        have hc : Chg (fun x => x = Q) wr (wr.setCell ⟨Q, k, none⟩ (.int .u8 (((b.toNat : Int) + 1) % 256))) := Chg.setCell (Chg.refl (fun x => x = Q) wr) (p := ⟨Q, k, none⟩) (Or.inl rfl) _
        refine HM.out.frame hc (fun x hx => by subst hx; omega) (fun x hx => ?_)
        subst hx
        exact ⟨C, 5, (0, 0), HCC.out, by decide, by decide, by decide⟩
      case measure => simp [intOf]; omega
    · obtain rfl : k = n := by omega
      clear hO
      go_wp2_with fail
      refine (read_b HM.out 1 (by omega) HST.out.2.1).mono ?_
      rintro e w5 ⟨kb, rfl, h5⟩
      have H5 := Lib.hid h5
      clear h5 HM
      go_wp2_with fail
      go_loopw [8] (fun i wr => ∃ (j : Nat), j ≤ 64 ∧ i = .int .i64 (j : Int) ∧ MineB w wr g s1 kb) (fun i _ => 64 - (intOf i).toNat)
      case atStart => exact ⟨0, by omega, rfl, H5.out⟩
      case round =>
        obtain ⟨j, hj, rfl, hM⟩ := hrel
        have HM := Lib.hid hM
        clear hM H5
        by_cases hlt2 : j < 64
        · obtain ⟨⟨v, hcell⟩, hfr⟩ := HM.out.cell hlt2
          have HSET := Lib.hid (HM.out.set j (.int .u8 238))
          have hj0 : (0 : Int) ≤ (j : Int) := Int.natCast_nonneg _
          have hj1 : (j : Int) < (64 : Int) := by omega
          go_wp2_with fail
          go_roundw
          case rel => exact ⟨j + 1, by omega, by go_num, HSET.out⟩
          case measure => simp [intOf]; omega
        · obtain rfl : j = 64 := by omega
          go_wp2_with fail
          refine (clone_two HM.out.mine (by omega)).mono ?_
          rintro e w6 ⟨gc, rfl, h6, _⟩
          have H6 := Lib.hid h6
          clear h6 HM
          go_wp2_with fail
          refine (write_two (H6.out.alloc _) 1 _ 1 1 [119] (Hold.new _ [119] 5 _ _ rfl) (by omega) (by omega)).mono ?_
          rintro e w7 ⟨rfl, h7⟩
          have H7 := Lib.hid h7
          have hbl2 := wSt_len s1 1 [119]
          clear h7 H6
          generalize s1.wSt 1 [119] = s2 at *
          go_wp2_with fail
          refine (flush_two H7.out (by omega)).mono ?_
          rintro e w8 ⟨rfl, h8⟩
          have H8 := Lib.hid h8.copy
          clear h8 H7
          go_wp2_with fail
          refine (read_ok H8.out 1 (by omega) HST.out.2.1).mono ?_
          rintro e w9 ⟨kx, rfl, _, hcont, _, h9⟩
          have ht : s1.told (Int.toNat 1) = pad l := HST.out.2.2.1
          rw [ht] at hcont
          have HCM := Lib.hid h9
          have hpl : (pad l).length = 64 := pad_length l (by rw [hll.out]; exact hn64)
          have HC := Lib.hid (Hold.block hcont 64 hpl.symm)
          have HLW := Lib.hid (HL.out.below h9.b)
          have HB1 := Lib.hid hbl
          clear h9 hcont ht H8 hpl hbl hbl2 HST
          have hX : ∃ x, pad l = x := ⟨_, rfl⟩
          obtain ⟨x, hx⟩ := hX
          have HX := Lib.hid hx
          rw [hx] at HC
          have hxl : x.length = 64 := by rw [← hx]; exact pad_length l (by rw [hll.out]; exact hn64)
          have HXL := Lib.hid hxl
          clear hx hxl
          go_wp2_with fail
          refine wp_region_steps (kpF kx gc A k c x) (fun w w' => Below w.heap.size w w') (by kernel_rfl) (by kernel_rfl) (fun w => Below.refl _ _) (fun _ _ _ h k => Below.trans h (Below.mono k (Below.size h))) kpF_mono ?_ ?_
          · refine ⟨?_, ?_, ?_, ?_, ?_, ?_, ?_, ?_, ?_, ?_, ?_, ?_, ?_, ?_, ?_, ?_, ?_, ?_, ?_, ?_, trivial⟩
            · intro a W hR hoff hd
              left
              refine ⟨rfl, ?_⟩
              have e0 : a.tmps.getD 7 undef = .int .i64 0 := hoff.slot 7 (no_dst (by kernel_rfl))
              go_simp
              exact ⟨_, rfl, rfl, Below.refl _ _⟩
            · intro a W hR hoff hd
              left
              refine ⟨rfl, ?_⟩
              have e0 : a.tmps.getD 69 undef = .int .i64 0 := hd 0 _ rfl rfl
              go_simp
              exact ⟨_, rfl, rfl, Below.refl _ _⟩
            · intro a W hR hoff hd
              left
              refine ⟨rfl, ?_⟩
              have e0 : a.tmps.getD 70 undef = .bool true := hd 1 _ rfl rfl
              go_simp
              exact ⟨_, rfl, rfl, Below.refl _ _⟩
            · intro a W hR hoff hd
              left
              have eg : a.tmps.getD 71 undef = .bool true := hd 2 _ rfl rfl
              refine ⟨wanted_of (ops := _) (j := 2) (b := true) rfl rfl rfl eg, ?_⟩
              clear eg
              have e0 : a.tmps.getD 11 undef = .int .i64 0 := hoff.slot 11 (no_dst (by kernel_rfl))
              go_simp
              exact ⟨_, rfl, rfl, Below.refl _ _⟩
            · intro a W hR hoff hd
              left
              have eg : a.tmps.getD 71 undef = .bool true := hd 2 _ rfl rfl
              refine ⟨wanted_of (ops := _) (j := 2) (b := true) rfl rfl rfl eg, ?_⟩
              clear eg
              have e0 : a.tmps.getD 72 undef = .int .i64 0 := hd 3 _ rfl rfl
              go_simp
              exact ⟨_, rfl, rfl, Below.refl _ _⟩
            · intro a W hR hoff hd
              left
              refine ⟨rfl, ?_⟩
              have e0 : a.tmps.getD 71 undef = .bool true := hd 2 _ rfl rfl
              have e1 : a.tmps.getD 73 undef = .bool true := hd 4 _ rfl rfl
              go_simp
              exact ⟨_, rfl, rfl, Below.refl _ _⟩
            · intro a W hR hoff hd
              left
              refine ⟨rfl, ?_⟩
              have e0 : a.tmps.getD 74 undef = .bool true := hd 5 _ rfl rfl
              go_simp
              exact ⟨_, rfl, rfl, Below.refl _ _⟩
            · intro a W hR hoff hd
              left
              have eg : a.tmps.getD 75 undef = .bool true := hd 6 _ rfl rfl
              refine ⟨wanted_of (ops := _) (j := 6) (b := true) rfl rfl rfl eg, ?_⟩
              clear eg
              have e0 : a.tmps.getD 10 undef = .slice (some ⟨kx, 0, none⟩) 64 64 := hoff.slot 10 (no_dst (by kernel_rfl))
              go_simp
              exact ⟨_, rfl, rfl, Below.refl _ _⟩
            · intro a W hR hoff hd
              left
              have eg : a.tmps.getD 75 undef = .bool true := hd 6 _ rfl rfl
              refine ⟨wanted_of (ops := _) (j := 6) (b := true) rfl rfl rfl eg, ?_⟩
              clear eg
              have e0 : a.tmps.getD 76 undef = .slice (some ⟨kx, 0, none⟩) 64 64 := hd 7 _ rfl rfl
              have cv := conv_hold (HC.out.drew.below hR)
              go_simp
              exact ⟨_, rfl, rfl, Below.refl _ _⟩
            · intro a W hR hoff hd
              left
              have eg : a.tmps.getD 75 undef = .bool true := hd 6 _ rfl rfl
              refine ⟨wanted_of (ops := _) (j := 6) (b := true) rfl rfl rfl eg, ?_⟩
              clear eg
              have e0 : a.tmps.getD 0 undef = .slice A k c := hoff.slot 0 (no_dst (by kernel_rfl))
              go_simp
              exact ⟨_, rfl, rfl, Below.refl _ _⟩
            · intro a W hR hoff hd
              left
              have eg : a.tmps.getD 75 undef = .bool true := hd 6 _ rfl rfl
              refine ⟨wanted_of (ops := _) (j := 6) (b := true) rfl rfl rfl eg, ?_⟩
              clear eg
              have e0 : a.tmps.getD 78 undef = .slice A k c := hd 9 _ rfl rfl
              have hlw := Lib.hid (HLW.out.drew.below hR)
              go_simp
              refine (whole_any W A k c l hlw.out hn64).mono ?_
              rintro e W2 ⟨k2, rfl, _, hk2, hb2⟩
              rw [HX.out] at hk2
              exact ⟨_, rfl, ⟨k2, rfl, Hold.block hk2 64 HXL.out.symm⟩, hb2⟩
            · intro a W hR hoff hd
              left
              have eg : a.tmps.getD 75 undef = .bool true := hd 6 _ rfl rfl
              refine ⟨wanted_of (ops := _) (j := 6) (b := true) rfl rfl rfl eg, ?_⟩
              clear eg
              obtain ⟨k2, e0, h2⟩ : ∃ k, a.tmps.getD 79 undef = .slice (some ⟨k, 0, none⟩) 64 64 ∧ Hold W (some ⟨k, 0, none⟩) 64 64 x := hd 10 _ rfl rfl
              have cv := conv_hold h2
              clear h2
              go_simp
              exact ⟨_, rfl, rfl, Below.refl _ _⟩
            · intro a W hR hoff hd
              left
              have eg : a.tmps.getD 75 undef = .bool true := hd 6 _ rfl rfl
              refine ⟨wanted_of (ops := _) (j := 6) (b := true) rfl rfl rfl eg, ?_⟩
              clear eg
              have e0 : a.tmps.getD 77 undef = .string ⟨x.toArray⟩ := hd 8 _ rfl rfl
              have e1 : a.tmps.getD 80 undef = .string ⟨x.toArray⟩ := hd 11 _ rfl rfl
              go_simp
              exact ⟨_, rfl, rfl, Below.refl _ _⟩
            · intro a W hR hoff hd
              left
              refine ⟨rfl, ?_⟩
              have e0 : a.tmps.getD 75 undef = .bool true := hd 6 _ rfl rfl
              have e1 : a.tmps.getD 81 undef = .bool true := hd 12 _ rfl rfl
              go_simp
              exact ⟨_, rfl, rfl, Below.refl _ _⟩
            · intro a W hR hoff hd
              left
              refine ⟨rfl, ?_⟩
              have e0 : a.tmps.getD 82 undef = .bool true := hd 13 _ rfl rfl
              go_simp
              exact ⟨_, rfl, rfl, Below.refl _ _⟩
            · intro a W hR hoff hd
              left
              have eg : a.tmps.getD 83 undef = .bool true := hd 14 _ rfl rfl
              refine ⟨wanted_of (ops := _) (j := 14) (b := true) rfl rfl rfl eg, ?_⟩
              clear eg
              have e0 : a.tmps.getD 9 undef = .pointer (some ⟨gc, 0, none⟩) := hoff.slot 9 (no_dst (by kernel_rfl))
              go_simp
              exact ⟨_, rfl, rfl, Below.refl _ _⟩
            · intro a W hR hoff hd
              left
              have eg : a.tmps.getD 83 undef = .bool true := hd 14 _ rfl rfl
              refine ⟨wanted_of (ops := _) (j := 14) (b := true) rfl rfl rfl eg, ?_⟩
              clear eg
              have e0 : a.tmps.getD 84 undef = .pointer (some ⟨gc, 0, none⟩) := hd 15 _ rfl rfl
              have hm := Lib.hid (HCM.out.drew.below hR)
              go_simp
              refine (waits_mine hm.out).mono ?_
              rintro e W2 ⟨rfl, rfl⟩
              rw [HB1.out]
              exact ⟨_, rfl, rfl, Below.refl _ _⟩
            · intro a W hR hoff hd
              left
              have eg : a.tmps.getD 83 undef = .bool true := hd 14 _ rfl rfl
              refine ⟨wanted_of (ops := _) (j := 14) (b := true) rfl rfl rfl eg, ?_⟩
              clear eg
              have e0 : a.tmps.getD 85 undef = .int .i64 1 := hd 16 _ rfl rfl
              go_simp
              exact ⟨_, rfl, rfl, Below.refl _ _⟩
            · intro a W hR hoff hd
              left
              refine ⟨rfl, ?_⟩
              have e0 : a.tmps.getD 83 undef = .bool true := hd 14 _ rfl rfl
              have e1 : a.tmps.getD 86 undef = .bool true := hd 17 _ rfl rfl
              go_simp
              exact ⟨_, rfl, rfl, Below.refl _ _⟩
            · intro a W hR hoff hd
              left
              refine ⟨rfl, ?_⟩
              have e0 : a.tmps.getD 87 undef = .bool true := hd 18 _ rfl rfl
              go_simp
              exact ⟨_, rfl, rfl, Below.refl _ _⟩
          · intro a W hR hoff hd
            have e2 : a.tmps.getD 2 undef = .bool true := hd 19 _ rfl
            have HB := Lib.hid ((HCM.out.b.drew).trans (hR.mono HCM.out.b.size))
            rename_i hK
            refine hK _ _ ?_
            go_wp2
            exact bodyPost_ret (results_tmp rfl _ _ _) hoff.defers ⟨by rw [e2], HB.out⟩
end Go.Proofs.Ytmajmohnnfjiaaa
