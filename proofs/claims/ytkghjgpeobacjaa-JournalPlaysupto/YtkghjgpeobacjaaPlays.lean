/-
  What is proved: the walk of the law JournalPlays: for every area and every script it returns true and turns nothing that was there. Conditions: the script's length, and the lengths of what it holds, are within the statement's bound.
-/
import Derived.Test.YtkghjgpeobacjaaPl
import Derived.Deep.DeepCutAuto
import Derived.Deep.CutBlock
namespace Go.Proofs.Ytkghjgpeobacjaa
open Go.RowKit

/-- what stands where the step's own part ends -/
def PlC (w : World) (g m fr tt k : Nat) (v7 v10 : Value) (wr : World) : Prop :=
  ∃ (j n : Nat) (x : JS) (u : Nat), v7 = .pointer (some ⟨j, 0, none⟩) ∧ v10 = .pointer (some ⟨n, 0, none⟩) ∧ PJ w wr j g n m x x u ∧ x.Ok ∧ x.fr = fr ∧ x.to = tt ∧ BufOk x.d (k + 1) ∧ u ≤ (k + 1) * 2097154
theorem cSt_length (d : D) (a b : Int) : (d.cSt a b).last.length = d.last.length := by
  by_cases h : clampN a d.buf.length < d.buf.length
  · rw [cSt_some h]
    simp only [List.length_set, settle_length]
  · rw [cSt_none h]
    simp only [settle_length]
theorem open_few {w0 w : World} {g : Nat} {s : D} (h : Mine w0 w g s) {fr tt : Nat} {en cn : Int} (h0 : s.openErr (fr : Int) (tt : Int) en cn = 0) : (s.openFs (fr : Int) en).length ≤ 140737488355328 := by
  obtain ⟨L, q, hd, _, _⟩ := h
  have hm := hd.ok.most
  obtain ⟨e, c, _, _, hok, hl⟩ := open_ok h0
  have h1 := hok.dk
  have h2 := hok.lo
  have h3 := hok.ct
  simp only at h1 h2 h3
  omega
theorem rows_none (w : World) : Rows0 w none 0 [] := ⟨rfl, (fun p hp => by cases hp), (fun h => absurd h (Nat.lt_irrefl 0))⟩

set_option maxRecDepth 100000 in
set_option maxHeartbeats 8000000 in
theorem journalPlays_walk (a0 a1 a2 : Int) (B : Option Addr) (N C : Nat) (os : List OpQ) (w : World) (ho : OpsQ w B N os) (hN : 7 * N ≤ 1048576) (ha1 : In64 a1) :
    Calls Try.prog 3 #[.agg #[.int .i64 a0, .int .i64 a1, .int .i64 a2], .slice B N C] w fun e w' => e = .returned (.bool true) ∧ Below w.heap.size w w' := by
  obtain ⟨w1, hw1⟩ : ∃ w1, w1 = w.alloc (.cells #[.int .i64 a0, .int .i64 a1, .int .i64 a2] 22) := ⟨_, rfl⟩
  have hbw : Below w.heap.size w w1 := by rw [hw1]; exact (Below.refl _ _).alloc (Nat.le_refl _) _
  have HO := Lib.hid (ho.below hbw)
  have HBW := Lib.hid hbw
  have HW1 := Lib.hid hw1
  have HBX : Hid (∀ W, Below w1.heap.size w1 W → W.cell? ⟨w.heap.size, 0, none⟩ = some (.int .i64 a0) ∧ W.cell? ⟨w.heap.size, 1, none⟩ = some (.int .i64 a1) ∧ W.cell? ⟨w.heap.size, 2, none⟩ = some (.int .i64 a2)) := Lib.hid fun W hb => by
    rw [hw1] at hb
    exact ⟨box_cell hb 0 rfl, box_cell hb 1 rfl, box_cell hb 2 rfl⟩
  clear ho hbw hw1
  obtain ⟨bx0, bx1, bx2⟩ := HBX.out w1 (Below.refl _ _)
  go_enter Try.func3, Try.ntmps3
  go_wp2_with fail
  rw [← HW1.out]
  refine (new_mine w1 w1 a0 (Below.refl _ _)).mono ?_
  rintro e w2 ⟨g, rfl, h2, hb2, _⟩
  have H2 := Lib.hid h2
  obtain ⟨by0, by1, by2⟩ := HBX.out w2 h2.b
  clear h2 hb2 bx0 bx1 bx2
  go_wp2_with fail
  refine (rnew_any w2 a0).mono ?_
  rintro e w3 ⟨m, mp, rfl, hrk, hb3, hm3, hmp3⟩
  have hR3 : RMine w1 w3 m (newSt (newN a0)) 0 := ⟨mp, none, [], hrk, H2.out.b.trans (hb3.mono H2.out.b.size), by
    have := H2.out.b.size
    rintro b (rfl | rfl | h)
    · omega
    · omega
    · cases h⟩
  have H3 := Lib.hid (H2.out.below hb3)
  have HR3 := Lib.hid hR3
  obtain ⟨bz0, bz1, bz2⟩ := HBX.out w3 H3.out.b
  have hb0 : (newSt (newN a0)).buf = [] := rfl
  have hl0 : (newSt (newN a0)).left = -1 := rfl
  clear hrk hb3 hm3 hmp3 H2 hR3 by0 by1 by2
  generalize newSt (newN a0) = s0 at *
  have hbl0 : s0.buf.length ≤ 1048576 := by rw [hb0]; decide
  go_wp2_with fail
  refine (po_p (x := ⟨s0, 0, 0, 0, 0⟩) H3.out a1 a2 0 0 ha1 hbl0).mono ?_
  rintro e w4 ⟨hb4, hno4, hyes4⟩
  have H4 := Lib.hid (H3.out.below hb4)
  have HR4 := Lib.hid (HR3.out.below hb4)
  obtain ⟨cz0, cz1, cz2⟩ := HBX.out w4 H4.out.b
  have HS3 := Lib.hid H3.out.b.size
  clear hb4 H3 HR3 bz0 bz1 bz2
  by_cases h0 : s0.openErr a1 a2 0 0 = 0
  · obtain ⟨fr, tt, rfl, rfl⟩ := open_area h0
    have HOK0 : Hid (JS.Ok ⟨s0, fr, tt, 0, 0⟩) := Lib.hid (by
      obtain ⟨_, _, _, _, q, _⟩ := open_ok h0
      exact ⟨q.ar, q.dk, Nat.zero_le _, Nat.zero_le _⟩)
    have HE0 := Lib.hid h0
    clear h0
    obtain ⟨j0, B4, C4, ps4, rfl, hj4, hJ4, -, -⟩ := hyes4 HE0.out
    have HJ4 := Lib.hid hJ4
    clear hno4 hyes4 hJ4
    go_wp2_with fail
    refine (po_r (x := ⟨s0, 0, 0, 0, 0⟩) HR4.out (fr : Int) (tt : Int) 0 0 hbl0).mono ?_
    rintro e w5 ⟨hb5, -, hyes5⟩
    obtain ⟨n0, B5, C5, ps5, rfl, hn5, hJ5, -, -⟩ := hyes5 HE0.out
    have hP5 : PJ w1 w5 j0 g n0 m ⟨s0, fr, tt, 0, 0⟩ ⟨s0, fr, tt, 0, 0⟩ 0 := ⟨⟨H4.out.below hb5, HJ4.out.below hb5, by have := HS3.out; omega⟩, HR4.out.below hb5, hJ5, by have := HR4.out.b.size; omega⟩
    have HP5 := Lib.hid hP5
    clear hb5 hyes5 hJ5 hP5 H4 HR4 HJ4 cz0 cz1 cz2
    go_wp2_with fail
    refine (awake_any w5).mono ?_
    rintro e w6 ⟨rfl, hb6⟩
    have HP6 := Lib.hid (HP5.out.below hb6)
    clear hb6 HP5
    go_wp2_with fail
    go_loopw [7, 10, 13] (fun v7 v10 i wr => PlR w1 g m fr tt N v7 v10 i wr) (fun _ _ i _ => N - (intOf i).toNat)
    case atStart => exact ⟨0, j0, n0, _, 0, by omega, rfl, rfl, rfl, HP6.out, HOK0.out, rfl, rfl, ⟨by rw [hb0]; exact Nat.zero_le _, fun _ => by rw [hb0]; exact Nat.zero_le _⟩, by omega⟩
    case round =>
      obtain ⟨k, j, n, x, u, hk, rfl, rfl, rfl, hP, hxo, hfr, hto, hbo, huk⟩ := hrel
      have HP := Lib.hid hP
      have HXO := Lib.hid hxo
      have HBO := Lib.hid hbo
      have huk1 : u ≤ (k + 1) * 2097154 := Nat.le_trans huk (Nat.mul_le_mul_right _ (Nat.le_succ k))
      have huk2 : u + 1048577 ≤ (k + 1) * 2097154 := by rw [Nat.succ_mul]; exact Nat.add_le_add huk (by decide)
      have hbk : x.d.buf.length ≤ k + 65536 := hbo.most
      have hu62 : u ≤ 4611686018427387904 := by
        have : k * 2097154 ≤ 1048576 * 2097154 := Nat.mul_le_mul_right _ (by omega)
        omega
      have HFR := Lib.hid hfr
      have HTO := Lib.hid hto
      clear hP hxo hbo HP6 HOK0 hfr hto
      by_cases hge : ¬ k < N
      · have hlt' : ¬ (k : Int) < (N : Int) := by omega
        go_wp2_with fail
        go_ret
        exact ⟨rfl, HBW.out.trans (HP.out.b.mono HBW.out.size)⟩
      have hlt : k < N := by omega
      clear hge
      obtain ⟨b, off, o, rfl, hrg, hok⟩ := HO.out.at (Below.refl _ _) hlt
      obtain ⟨kd, oa, ob, oe, oc, A2, n2, c2, l2⟩ := o
      have HRG : Hid (wr.rangeAt b (off + k * 6) [.int .i64 kd, .int .i64 oa, .int .i64 ob, .int .i64 oe, .int .i64 oc, .slice A2 n2 c2]) := Lib.hid (range_laterQ hrg HP.out.b)
      have HK := Lib.hid hok
      have hia := hok.ia
      have hib := hok.ib
      have hsz := hok.size
      simp only at hia hib hsz
      have HIA := Lib.hid hia
      have HIB := Lib.hid hib
      have hk0 : (0 : Int) ≤ (k : Int) := Int.natCast_nonneg _
      have hk1 : (k : Int) < (N : Int) := by omega
      have HI39 : Hid ((Try.prog.info? 39).map (·.size) = some [Value.int .i64 kd, .int .i64 oa, .int .i64 ob, .int .i64 oe, .int .i64 oc, .slice A2 n2 c2].length) := Lib.hid Try.size39
      clear hrg hok hia hib
      have HP0 := Lib.hid (HP.out.below ((Below.refl _ _).alloc (Nat.le_refl _) (.cells #[.int .i64 kd, .int .i64 oa, .int .i64 ob, .int .i64 oe, .int .i64 oc, .slice A2 n2 c2] 39)))
      have HV0 : Hid ((wr.alloc (.cells #[.int .i64 kd, .int .i64 oa, .int .i64 ob, .int .i64 oe, .int .i64 oc, .slice A2 n2 c2] 39)).heap[wr.heap.size]? = some (.cells #[.int .i64 kd, .int .i64 oa, .int .i64 ob, .int .i64 oe, .int .i64 oc, .slice A2 n2 c2] 39 (0, 0))) := Lib.hid (heap_alloc_new wr _)
      have HA2 := Lib.hid (HK.out.hold.below HP0.out.b)
      simp only at HA2
      go_upto_block 2 with (with_reducible refine wpList_load_mid rfl 39 (.tmp 84) rfl b (off + k * 6) rfl [.int .i64 kd, .int .i64 oa, .int .i64 ob, .int .i64 oe, .int .i64 oc, .slice A2 n2 c2] _ HRG.out Try.underlying39 rfl HI39.out ?_)
      clear HP HRG HI39
      generalize wr.alloc (.cells #[.int .i64 kd, .int .i64 oa, .int .i64 ob, .int .i64 oe, .int .i64 oc, .slice A2 n2 c2] 39) = X0 at *
      generalize wr.heap.size = ko at *
      go_cut [7, 10] (fun v7 v10 wx => PlC w1 g m fr tt k v7 v10 wx)
      case first =>
        by_cases k1e : kd = 1
        · subst k1e
          as_aux_lemma =>
            go_wp2_with fail
            refine wp_region_stepsA (p1F j n ko A2 n2 c2 (x.err l2)) (p1J w1 j g n m x (x.app l2) u ko #[.int .i64 1, .int .i64 oa, .int .i64 ob, .int .i64 oe, .int .i64 oc, .slice A2 n2 c2]) (by kernel_rfl) (by kernel_rfl) ⟨HP0.out.below ((Below.refl _ _).drew), HV0.out⟩ ?_ ?_
            · refine ⟨?_, ?_, ?_, ?_, ?_, ?_, ?_, ?_, ?_, trivial⟩
              · intro a W ls hJ hi hcl hd hoff hf
                left
                refine ⟨rfl, ?_⟩
                have e0 : a.tmps.getD 7 undef = .pointer (some ⟨j, 0, none⟩) := hoff.slot 7 (no_dst (by kernel_rfl))
                go_simp
                exact ⟨_, rfl, rfl, hJ.pure (by decide) _⟩
              · intro a W ls hJ hi hcl hd hoff hf
                left
                refine ⟨rfl, ?_⟩
                have e0 : a.tmps.getD 14 undef = .pointer (some ⟨ko, 0, none⟩) := hoff.slot 14 (no_dst (by kernel_rfl))
                go_simp
                exact ⟨_, rfl, rfl, hJ.pure (by decide) _⟩
              · intro a W ls hJ hi hcl hd hoff hf
                left
                refine ⟨rfl, ?_⟩
                have e0 : a.tmps.getD 91 undef = .pointer (some ⟨ko, 5, none⟩) := hf 1 _ (hd 1 rfl) rfl
                obtain ⟨d0, d1, d2, d3, d4, d5⟩ := six_cells hJ.2
                go_simp
                exact ⟨_, rfl, rfl, hJ.pure (by decide) _⟩
              · intro a W ls hJ hi hcl hd hoff hf
                left
                refine ⟨rfl, ?_⟩
                have e0 : a.tmps.getD 90 undef = .pointer (some ⟨j, 0, none⟩) := hf 0 _ (hd 0 rfl) rfl
                have e1 : a.tmps.getD 92 undef = .slice A2 n2 c2 := hf 2 _ (hd 2 rfl) rfl
                have HJ := Lib.hid hJ
                clear hJ
                go_simp
                refine (pj_append (HJ.out.three hi) HXO.out A2 n2 c2 l2 (HK.out.hold.below HJ.out.1.b) (by omega) (by omega)).mono ?_
                rintro e W2 ⟨rfl, h2, o2⟩
                exact ⟨_, rfl, rfl, HJ.out.set3 h2 o2 _⟩
              · intro a W ls hJ hi hcl hd hoff hf
                left
                refine ⟨rfl, ?_⟩
                have e0 : a.tmps.getD 10 undef = .pointer (some ⟨n, 0, none⟩) := hoff.slot 10 (no_dst (by kernel_rfl))
                go_simp
                exact ⟨_, rfl, rfl, hJ.pure (by decide) _⟩
              · intro a W ls hJ hi hcl hd hoff hf
                left
                refine ⟨rfl, ?_⟩
                have e0 : a.tmps.getD 14 undef = .pointer (some ⟨ko, 0, none⟩) := hoff.slot 14 (no_dst (by kernel_rfl))
                go_simp
                exact ⟨_, rfl, rfl, hJ.pure (by decide) _⟩
              · intro a W ls hJ hi hcl hd hoff hf
                left
                refine ⟨rfl, ?_⟩
                have e0 : a.tmps.getD 95 undef = .pointer (some ⟨ko, 5, none⟩) := hf 5 _ (hd 5 rfl) rfl
                obtain ⟨d0, d1, d2, d3, d4, d5⟩ := six_cells hJ.2
                go_simp
                exact ⟨_, rfl, rfl, hJ.pure (by decide) _⟩
              · intro a W ls hJ hi hcl hd hoff hf
                left
                refine ⟨rfl, ?_⟩
                have e0 : a.tmps.getD 94 undef = .pointer (some ⟨n, 0, none⟩) := hf 4 _ (hd 4 rfl) rfl
                have e1 : a.tmps.getD 96 undef = .slice A2 n2 c2 := hf 6 _ (hd 6 rfl) rfl
                have HJ := Lib.hid hJ
                clear hJ
                go_simp
                refine (pj_rappend (HJ.out.seven hi) HXO.out A2 n2 c2 l2 (HK.out.hold.below HJ.out.1.b) (by omega) (by omega) hu62).mono ?_
                rintro e W2 ⟨rfl, h2, o2⟩
                exact ⟨_, rfl, rfl, HJ.out.set7 h2 o2 _⟩
              · intro a W ls hJ hi hcl hd hoff hf
                left
                refine ⟨rfl, ?_⟩
                have e0 : a.tmps.getD 93 undef = .int .i64 (x.err l2) := hf 3 _ (hd 3 rfl) rfl
                have e1 : a.tmps.getD 97 undef = .int .i64 (x.err l2) := hf 7 _ (hd 7 rfl) rfl
                go_simp
                exact ⟨_, rfl, rfl, hJ.pure (by decide) _⟩
            · intro a W ls hl2 hJ hoff hf
              have e98 : a.tmps.getD 98 undef = .bool false := hf 8 _ rfl
              have hJ1 : PJ w1 W j g n m (x.app l2) (x.app l2) (u + 1048577) := by
                have := hJ.1
                rw [if_pos (hl2 3 (by decide)), if_pos (hl2 7 (by decide)), if_pos (hl2 7 (by decide))] at this
                exact this
              clear HP0 HV0
              have HPz := Lib.hid hJ1
              obtain ⟨ys, hys, ha⟩ := off_form hoff (mask := [false, false, false, false, false, false, false, false, false, false, false, false, false, false, false, false, false, false, false, false, false, false, false, false, false, false, false, false, false, false, false, false, false, false, false, false, false, false, false, false, false, false, false, false, false, false, false, false, false, false, false, false, false, false, false, false, false, false, false, false, false, false, false, false, false, false, false, false, false, false, false, false, false, false, false, false, false, false, false, false, false, false, false, false, false, false, false, false, false, false, true, true, true, true, true, true, true, true, true, false, false, false, false, false, false, false, false, false, false, false, false, false, false, false, false, false, false, false, false, false, false, false, false, false, false, false, false, false, false, false, false, false, false, false, false, false, false, false, false, false, false, false, false, false, false, false, false, false, false, false, false, false, false, false, false, false, false, false, false, false, false, false, false, false, false, false, false, false, false, false, false, false, false, false, false, false, false, false, false, false, false, false, false, false, false, false, false, false, false, false, false, false, false, false, false, false, false, false, false, false, false, false, false, false, false, false, false, false, false, false, false, false, false, false, false, false, false, false, false, false, false, false, false, false, false, false, false, false, false, false, false, false, false, false, false, false, false, false, false, false, false, false, false, false, false, false, false, false, false, false, false, false, false, false, false, false, false, false, false, false, false, false]) (by kernel_rfl)
              rw [hys] at e98
              clear hf hoff hys hJ hJ1 hl2
              subst ha
              simp only [fillFrom, Nat.zero_add, Nat.reduceAdd, e98]
              go_wp2_with fail
              go_meet
              exact ⟨j, n, x.app l2, u + 1048577, rfl, rfl, HPz.out, HXO.out.app l2, by rw [(app_area x l2).1]; exact HFR.out, by rw [(app_area x l2).2]; exact HTO.out, HBO.out.append l2, huk2⟩
        by_cases k2e : kd = 2
        · subst k2e
          as_aux_lemma =>
            obtain ⟨d0, d1, d2, d3, d4, d5⟩ := six_cells HV0.out
            go_wp2_with fail
            refine (pj_arm HP0.out oa HIA.out.1 HIA.out.2).mono ?_
            rintro e x1 ⟨rfl, h1, o1⟩
            have HP1 := Lib.hid h1
            have HV1 := Lib.hid (o1 _ _ _ HV0.out)
            clear h1 o1 HP0 HV0 d0 d1 d2 d3 d4 d5
            obtain ⟨d0, d1, d2, d3, d4, d5⟩ := six_cells HV1.out
            go_wp2_with fail
            refine (pj_rarm HP1.out oa HIA.out.1 HIA.out.2).mono ?_
            rintro e x2 ⟨rfl, h2, o2⟩
            have HP2 := Lib.hid h2
            clear h2 o2 HP1 HV1 d0 d1 d2 d3 d4 d5
            go_wp2_with fail
            go_meet
            exact ⟨j, n, ⟨x.d.aSt oa, x.fr, x.to, x.en, x.cn⟩, u, rfl, rfl, HP2.out, HXO.out.disk (by rw [aSt_last]), HFR.out, HTO.out, HBO.out.arm oa, huk1⟩
        by_cases k3e : kd = 3
        · subst k3e
          as_aux_lemma =>
            obtain ⟨d0, d1, d2, d3, d4, d5⟩ := six_cells HV0.out
            obtain ⟨r0, r1, r2, r3, r4, _⟩ := rjn_cells HP0.out.rj
            go_wp2_with fail
            refine (pj_crash HP0.out oa ob (by omega)).mono ?_
            rintro e x1 ⟨rfl, h1, o1⟩
            have HP1 := Lib.hid h1
            have HV1 := Lib.hid (o1 _ _ _ HV0.out)
            clear h1 o1 HP0 HV0 d0 d1 d2 d3 d4 d5 r0 r1 r2 r3 r4
            obtain ⟨d0, d1, d2, d3, d4, d5⟩ := six_cells HV1.out
            go_wp2_with fail
            refine (pj_rcrash HP1.out oa ob (by omega) hu62).mono ?_
            rintro e x2 ⟨rfl, h2, o2⟩
            have HPc := Lib.hid h2
            clear h2 o2 HP1 HV1 d0 d1 d2 d3 d4 d5
            have hbY : (x.d.cSt oa ob).buf.length ≤ 1048576 := Nat.zero_le _
            have HYO : Hid (JS.Ok ⟨x.d.cSt oa ob, x.fr, x.to, x.en, x.cn⟩) := Lib.hid (HXO.out.disk (cSt_length _ _ _))
            by_cases hE : (x.d.cSt oa ob).openErr (fr : Int) (tt : Int) (x.en : Int) (x.cn : Int) = 0
            · have HE := Lib.hid hE
              clear hE
              obtain ⟨z0, z1, z2⟩ := HBX.out x2 HPc.out.b
              go_wp2_with fail
              refine (po_p (x := ⟨x.d.cSt oa ob, x.fr, x.to, x.en, x.cn⟩) HPc.out.p.1 (fr : Int) (tt : Int) (x.en : Int) (x.cn : Int) ha1 hbY).mono ?_
              rintro e y1 ⟨hb1, -, hyes⟩
              obtain ⟨j2, B2, C2, ps2, rfl, hj2, hJ2, hr2, hm2⟩ := hyes HE.out
              have HF2 := Lib.hid (open_few HPc.out.p.1 HE.out)
              have HPd := Lib.hid (HPc.out.below hb1)
              have HJ2 := Lib.hid hJ2
              have HR2 := Lib.hid hr2
              have HM2 := Lib.hid hm2
              have HL2 : Hid (w1.heap.size ≤ j2) := Lib.hid (Nat.le_trans HPc.out.b.size hj2)
              clear hb1 hyes hj2 hJ2 hr2 hm2 HPc z0 z1 z2
              obtain ⟨z0, z1, z2⟩ := HBX.out y1 HPd.out.b
              obtain ⟨fs, hfs⟩ : ∃ fs, fs = D.openFs (x.d.cSt oa ob) (fr : Int) (x.en : Int) := ⟨_, rfl⟩
              have HFS := Lib.hid hfs
              rw [← hfs] at HF2 HR2 HM2
              rw [← hfs]
              clear hfs
              go_wp2_with fail
              refine (po_r (x := ⟨x.d.cSt oa ob, x.fr, x.to, x.en, x.cn⟩) HPd.out.r (fr : Int) (tt : Int) (x.en : Int) (x.cn : Int) hbY).mono ?_
              rintro e y2 ⟨hb2, -, hyes⟩
              obtain ⟨n3, B3, C3, ps3, rfl, hn3, hJ3, hr3, hm3⟩ := hyes HE.out
              rw [← HFS.out] at hr3 hm3
              have HPe := Lib.hid (HPd.out.below hb2)
              have HJe := Lib.hid (HJ2.out.below hb2)
              have HJ3 := Lib.hid hJ3
              have HL3 : Hid (w1.heap.size ≤ n3) := Lib.hid (Nat.le_trans HPd.out.b.size hn3)
              have HS : Hid (∀ C C', Calls Try.prog 19 #[.slice B2 fs.length C, .slice B3 fs.length C'] y2 fun e w' => e = .returned (.bool true) ∧ Below y2.heap.size y2 w') := Lib.hid fun C C' => same_any y2 B2 B3 fs.length C C' ps2 ps3 (HR2.out.below hb2) hr3 (HM2.out.trans hm3.symm) HF2.out
              rw [← HFS.out]
              generalize fs.length = lf at *
              clear hb2 hyes hn3 hJ3 hr3 hm3 HPd HJ2 HR2 HM2 HF2 HFS z0 z1 z2
              go_wp2_with fail
              refine (HS.out _ _).mono ?_
              rintro e y3 ⟨rfl, hb3⟩
              have HPf := Lib.hid (HPe.out.below hb3)
              have HJf := Lib.hid (HJe.out.below hb3)
              have HJr : Hid (RJn y3 n3 m (fr : Int) (tt : Int) (x.en : Int) (x.cn : Int)) := Lib.hid ((hb3.block n3 (Array.getElem?_eq_some_iff.1 HJ3.out).1).trans HJ3.out)
              clear hb3 HS HPe HJe HJ3
              go_wp2_with fail
              go_meet
              exact ⟨j2, n3, ⟨x.d.cSt oa ob, fr, tt, x.en, x.cn⟩, u + 1048577, rfl, rfl, ⟨⟨HPf.out.p.1, HJf.out, HL2.out⟩, HPf.out.r, HJr.out, HL3.out⟩, by have q := HYO.out; rw [HFR.out, HTO.out] at q; exact q, rfl, rfl, BufOk.crash _ _ _ _, huk2⟩
            · have HE := Lib.hid hE
              clear hE
              obtain ⟨z0, z1, z2⟩ := HBX.out x2 HPc.out.b
              go_wp2_with fail
              refine (po_p (x := ⟨x.d.cSt oa ob, x.fr, x.to, x.en, x.cn⟩) HPc.out.p.1 (fr : Int) (tt : Int) (x.en : Int) (x.cn : Int) ha1 hbY).mono ?_
              rintro e y1 ⟨hb1, hno, -⟩
              have hn1 := hno HE.out
              subst hn1
              have HPd := Lib.hid (HPc.out.below hb1)
              clear hb1 hno HPc z0 z1 z2
              obtain ⟨z0, z1, z2⟩ := HBX.out y1 HPd.out.b
              go_wp2_with fail
              refine (po_r (x := ⟨x.d.cSt oa ob, x.fr, x.to, x.en, x.cn⟩) HPd.out.r (fr : Int) (tt : Int) (x.en : Int) (x.cn : Int) hbY).mono ?_
              rintro e y2 ⟨hb2, hno, -⟩
              have hn2 := hno HE.out
              subst hn2
              have HPe := Lib.hid (HPd.out.below hb2)
              clear hb2 hno HPd z0 z1 z2 HE
              generalize D.openErr (x.d.cSt oa ob) (fr : Int) (tt : Int) (x.en : Int) (x.cn : Int) = er at *
              go_wp2_with fail
              refine (same_any y2 none none 0 0 0 [] [] (rows_none _) (rows_none _) rfl (by decide)).mono ?_
              rintro e y3 ⟨rfl, hb3⟩
              have HPf := Lib.hid (HPe.out.below hb3)
              clear hb3 HPe
              go_wp2_with fail
              go_meet
              exact ⟨j, n, ⟨x.d.cSt oa ob, x.fr, x.to, x.en, x.cn⟩, u + 1048577, rfl, rfl, HPf.out, HYO.out, HFR.out, HTO.out, BufOk.crash _ _ _ _, huk2⟩
        by_cases k5e : kd = 5
        · subst k5e
          as_aux_lemma =>
            have HVc := HV0
            have HPc := HP0
            clear HP0 HV0
            have hbY : x.d.buf.length ≤ 1048576 := by omega
            by_cases hE : x.d.openErr (fr : Int) (tt : Int) oe oc = 0
            · obtain ⟨e1, c1, rfl, rfl, hok1, -⟩ := open_ok hE
              have HO1 := Lib.hid hok1
              have HE := Lib.hid hE
              clear hE hok1
              obtain ⟨z0, z1, z2⟩ := HBX.out X0 HPc.out.b
              obtain ⟨d0, d1, d2, d3, d4, d5⟩ := six_cells HVc.out
              obtain ⟨r0, r1, r2, r3, r4, _⟩ := rjn_cells HPc.out.rj
              go_wp2_with fail
              refine (po_p (x := x) HPc.out.p.1 (fr : Int) (tt : Int) (e1 : Int) (c1 : Int) ha1 hbY).mono ?_
              rintro e y1 ⟨hb1, -, hyes⟩
              obtain ⟨j2, B2, C2, ps2, rfl, hj2, hJ2, hr2, hm2⟩ := hyes HE.out
              have HF2 := Lib.hid (open_few HPc.out.p.1 HE.out)
              have HPd := Lib.hid (HPc.out.below hb1)
              have HJ2 := Lib.hid hJ2
              have HR2 := Lib.hid hr2
              have HM2 := Lib.hid hm2
              have HL2 : Hid (w1.heap.size ≤ j2) := Lib.hid (Nat.le_trans HPc.out.b.size hj2)
              clear hb1 hyes hj2 hJ2 hr2 hm2 HPc z0 z1 z2 d0 d1 d2 d3 d4 d5 r0 r1 r2 r3 r4
              obtain ⟨z0, z1, z2⟩ := HBX.out y1 HPd.out.b
              obtain ⟨fs, hfs⟩ : ∃ fs, fs = D.openFs x.d (fr : Int) (e1 : Int) := ⟨_, rfl⟩
              have HFS := Lib.hid hfs
              rw [← hfs] at HF2 HR2 HM2
              rw [← hfs]
              clear hfs
              go_wp2_with fail
              refine (po_r (x := x) HPd.out.r (fr : Int) (tt : Int) (e1 : Int) (c1 : Int) hbY).mono ?_
              rintro e y2 ⟨hb2, -, hyes⟩
              obtain ⟨n3, B3, C3, ps3, rfl, hn3, hJ3, hr3, hm3⟩ := hyes HE.out
              rw [← HFS.out] at hr3 hm3
              have HPe := Lib.hid (HPd.out.below hb2)
              have HJe := Lib.hid (HJ2.out.below hb2)
              have HJ3 := Lib.hid hJ3
              have HL3 : Hid (w1.heap.size ≤ n3) := Lib.hid (Nat.le_trans HPd.out.b.size hn3)
              have HS : Hid (∀ C C', Calls Try.prog 19 #[.slice B2 fs.length C, .slice B3 fs.length C'] y2 fun e w' => e = .returned (.bool true) ∧ Below y2.heap.size y2 w') := Lib.hid fun C C' => same_any y2 B2 B3 fs.length C C' ps2 ps3 (HR2.out.below hb2) hr3 (HM2.out.trans hm3.symm) HF2.out
              rw [← HFS.out]
              generalize fs.length = lf at *
              clear hb2 hyes hn3 hJ3 hr3 hm3 HPd HJ2 HR2 HM2 HF2 HFS z0 z1 z2
              go_wp2_with fail
              refine (HS.out _ _).mono ?_
              rintro e y3 ⟨rfl, hb3⟩
              have HPf := Lib.hid (HPe.out.below hb3)
              have HJf := Lib.hid (HJe.out.below hb3)
              have HJr : Hid (RJn y3 n3 m (fr : Int) (tt : Int) (e1 : Int) (c1 : Int)) := Lib.hid ((hb3.block n3 (Array.getElem?_eq_some_iff.1 HJ3.out).1).trans HJ3.out)
              clear hb3 HS HPe HJe HJ3
              go_wp2_with fail
              go_meet
              exact ⟨j2, n3, ⟨x.d, fr, tt, e1, c1⟩, u, rfl, rfl, ⟨⟨HPf.out.p.1, HJf.out, HL2.out⟩, HPf.out.r, HJr.out, HL3.out⟩, HO1.out, rfl, rfl, HBO.out.next, huk1⟩
            · have HE := Lib.hid hE
              clear hE
              obtain ⟨z0, z1, z2⟩ := HBX.out X0 HPc.out.b
              obtain ⟨d0, d1, d2, d3, d4, d5⟩ := six_cells HVc.out
              obtain ⟨r0, r1, r2, r3, r4, _⟩ := rjn_cells HPc.out.rj
              go_wp2_with fail
              refine (po_p (x := x) HPc.out.p.1 (fr : Int) (tt : Int) oe oc ha1 hbY).mono ?_
              rintro e y1 ⟨hb1, hno, -⟩
              have hn1 := hno HE.out
              subst hn1
              have HPd := Lib.hid (HPc.out.below hb1)
              clear hb1 hno HPc z0 z1 z2 d0 d1 d2 d3 d4 d5 r0 r1 r2 r3 r4
              obtain ⟨z0, z1, z2⟩ := HBX.out y1 HPd.out.b
              go_wp2_with fail
              refine (po_r (x := x) HPd.out.r (fr : Int) (tt : Int) oe oc hbY).mono ?_
              rintro e y2 ⟨hb2, hno, -⟩
              have hn2 := hno HE.out
              subst hn2
              have HPe := Lib.hid (HPd.out.below hb2)
              clear hb2 hno HPd z0 z1 z2 HE
              generalize D.openErr x.d (fr : Int) (tt : Int) oe oc = er at *
              go_wp2_with fail
              refine (same_any y2 none none 0 0 0 [] [] (rows_none _) (rows_none _) rfl (by decide)).mono ?_
              rintro e y3 ⟨rfl, hb3⟩
              have HPf := Lib.hid (HPe.out.below hb3)
              clear hb3 HPe
              go_wp2_with fail
              go_meet
              exact ⟨j, n, x, u, rfl, rfl, HPf.out, HXO.out, HFR.out, HTO.out, HBO.out.next, huk1⟩
        by_cases k4e : kd = 4
        · subst k4e
          as_aux_lemma =>
            obtain ⟨d0, d1, d2, d3, d4, d5⟩ := six_cells HV0.out
            go_wp2_with fail
            refine (pj_write HP0.out oa A2 n2 c2 l2 HA2.out (by omega) (by omega)).mono ?_
            rintro e x1 ⟨rfl, h1, o1⟩
            have HP1 := Lib.hid h1
            have HV1 := Lib.hid (o1 _ _ _ HV0.out)
            clear h1 o1 HP0 HV0 d0 d1 d2 d3 d4 d5
            obtain ⟨d0, d1, d2, d3, d4, d5⟩ := six_cells HV1.out
            go_wp2_with fail
            refine (pj_rwrite HP1.out oa A2 n2 c2 l2 (HK.out.hold.below HP1.out.b) (by omega)).mono ?_
            rintro e x2 ⟨rfl, h2, o2⟩
            have HP2 := Lib.hid h2
            clear h2 o2 HP1 HV1 d0 d1 d2 d3 d4 d5
            go_wp2_with fail
            go_meet
            exact ⟨j, n, ⟨x.d.wSt oa l2, x.fr, x.to, x.en, x.cn⟩, u, rfl, rfl, HP2.out, HXO.out.disk (by rw [wSt_last]), HFR.out, HTO.out, HBO.out.write oa l2, huk1⟩
        as_aux_lemma =>
          have hq1 : (kd == 1) = false := by simp [k1e]
          have hq2 : (kd == 2) = false := by simp [k2e]
          have hq3 : (kd == 3) = false := by simp [k3e]
          have hq4 : (kd == 4) = false := by simp [k4e]
          have hq5 : (kd == 5) = false := by simp [k5e]
          go_wp2_with fail
          go_meet
          exact ⟨j, n, x, u, rfl, rfl, HP0.out, HXO.out, HFR.out, HTO.out, HBO.out.next, huk1⟩
      case rest =>
        as_aux_lemma =>
          clear HP0 HV0 HA2 HK HIA HIB HXO HBO HFR HTO huk1 huk2 hbk hu62
          obtain ⟨j, n, S1, u, rfl, rfl, hP, hso, hsf, hst, hsb, huu⟩ := hcut
          have HP := Lib.hid hP
          have HSO := Lib.hid hso
          have HSF := Lib.hid hsf
          have HST := Lib.hid hst
          have HSB := Lib.hid hsb
          have HUU := Lib.hid huu
          have hbl1 : S1.d.buf.length ≤ 1048576 := by have := hsb.most; omega
          clear hP hso hsf hst hsb huu
          -- HP : Hid (PJ w1 wc j g n m S1 S1 u)
          have HTC : Hid (∀ W, Below wc.drew.heap.size wc.drew W → PJ w1 W j g n m S1 S1 u) := Lib.hid fun W hbW => PJ.below (w := wc.drew) (HP.out.below ((Below.refl _ _).drew)) hbW
          obtain ⟨AB, cB, hcm⟩ := cm_cells HP.out
          have HCM := Lib.hid hcm
          clear hcm
          go_wp2_with fail
          refine wp_region_steps (fun i v _ => cmF j g n m (S1.en : Int) (S1.cn : Int) (decide (S1.d.left = 0)) AB S1.d.buf.length cB i v) (fun w w' => Below w.heap.size w w') (by kernel_rfl) (by kernel_rfl) (fun w => Below.refl _ _) (fun _ _ _ h k => h.trans (k.mono h.size)) (fun _ _ _ _ h _ => h) ?_ ?_
          · refine ⟨?_, ?_, ?_, ?_, ?_, ?_, ?_, ?_, ?_, ?_, ?_, ?_, ?_, ?_, ?_, ?_, ?_, ?_, ?_, ?_, ?_, ?_, ?_, ?_, ?_, ?_, ?_, ?_, ?_, ?_, ?_, ?_, ?_, ?_, ?_, trivial⟩
            · intro a W hR hoff hd
              left
              refine ⟨rfl, ?_⟩
              have e0 : a.tmps.getD 7 undef = .pointer (some ⟨j, 0, none⟩) := hoff.slot 7 (no_dst (by kernel_rfl))
              go_simp
              exact ⟨_, rfl, rfl, Below.refl _ _⟩
            · intro a W hR hoff hd
              left
              refine ⟨rfl, ?_⟩
              have e0 : a.tmps.getD 201 undef = .pointer (some ⟨j, 0, none⟩) := hd 0 _ rfl rfl
              have HQ := Lib.hid (HTC.out W hR)
              go_simp
              refine (jend_jm HQ.out.p).mono ?_
              rintro e W2 ⟨rfl, rfl⟩
              exact ⟨_, rfl, rfl, Below.refl _ _⟩
            · intro a W hR hoff hd
              left
              refine ⟨rfl, ?_⟩
              have e0 : a.tmps.getD 10 undef = .pointer (some ⟨n, 0, none⟩) := hoff.slot 10 (no_dst (by kernel_rfl))
              go_simp
              exact ⟨_, rfl, rfl, Below.refl _ _⟩
            · intro a W hR hoff hd
              left
              refine ⟨rfl, ?_⟩
              have e0 : a.tmps.getD 203 undef = .pointer (some ⟨n, 0, none⟩) := hd 2 _ rfl rfl
              go_simp
              exact ⟨_, rfl, rfl, Below.refl _ _⟩
            · intro a W hR hoff hd
              left
              refine ⟨rfl, ?_⟩
              have e0 : a.tmps.getD 204 undef = .pointer (some ⟨n, 0, none⟩) := hd 3 _ rfl rfl
              go_simp
              exact ⟨_, rfl, rfl, Below.refl _ _⟩
            · intro a W hR hoff hd
              left
              refine ⟨rfl, ?_⟩
              have e0 : a.tmps.getD 205 undef = .pointer (some ⟨n, 3, none⟩) := hd 4 _ rfl rfl
              obtain ⟨y0, y1, y2, y3, y4, _⟩ := rjn_cells (HTC.out W hR).rj
              go_simp
              exact ⟨_, rfl, rfl, Below.refl _ _⟩
            · intro a W hR hoff hd
              left
              refine ⟨rfl, ?_⟩
              have e0 : a.tmps.getD 202 undef = .int .i64 (S1.en : Int) := hd 1 _ rfl rfl
              have e1 : a.tmps.getD 206 undef = .int .i64 (S1.en : Int) := hd 5 _ rfl rfl
              go_simp
              exact ⟨_, rfl, rfl, Below.refl _ _⟩
            · intro a W hR hoff hd
              left
              refine ⟨rfl, ?_⟩
              have e0 : a.tmps.getD 207 undef = .bool false := hd 6 _ rfl rfl
              go_simp
              exact ⟨_, rfl, rfl, Below.refl _ _⟩
            · intro a W hR hoff hd
              left
              have eg : a.tmps.getD 208 undef = .bool false := hd 7 _ rfl rfl
              refine ⟨wanted_of (ops := _) (j := 7) (b := false) rfl rfl rfl eg, ?_⟩
              clear eg
              have e0 : a.tmps.getD 7 undef = .pointer (some ⟨j, 0, none⟩) := hoff.slot 7 (no_dst (by kernel_rfl))
              go_simp
              exact ⟨_, rfl, rfl, Below.refl _ _⟩
            · intro a W hR hoff hd
              left
              have eg : a.tmps.getD 208 undef = .bool false := hd 7 _ rfl rfl
              refine ⟨wanted_of (ops := _) (j := 7) (b := false) rfl rfl rfl eg, ?_⟩
              clear eg
              have e0 : a.tmps.getD 209 undef = .pointer (some ⟨j, 0, none⟩) := hd 8 _ rfl rfl
              have HQ := Lib.hid (HTC.out W hR)
              go_simp
              refine (jcount_jm HQ.out.p).mono ?_
              rintro e W2 ⟨rfl, rfl⟩
              exact ⟨_, rfl, rfl, Below.refl _ _⟩
            · intro a W hR hoff hd
              left
              have eg : a.tmps.getD 208 undef = .bool false := hd 7 _ rfl rfl
              refine ⟨wanted_of (ops := _) (j := 7) (b := false) rfl rfl rfl eg, ?_⟩
              clear eg
              have e0 : a.tmps.getD 10 undef = .pointer (some ⟨n, 0, none⟩) := hoff.slot 10 (no_dst (by kernel_rfl))
              go_simp
              exact ⟨_, rfl, rfl, Below.refl _ _⟩
            · intro a W hR hoff hd
              left
              have eg : a.tmps.getD 208 undef = .bool false := hd 7 _ rfl rfl
              refine ⟨wanted_of (ops := _) (j := 7) (b := false) rfl rfl rfl eg, ?_⟩
              clear eg
              have e0 : a.tmps.getD 211 undef = .pointer (some ⟨n, 0, none⟩) := hd 10 _ rfl rfl
              go_simp
              exact ⟨_, rfl, rfl, Below.refl _ _⟩
            · intro a W hR hoff hd
              left
              have eg : a.tmps.getD 208 undef = .bool false := hd 7 _ rfl rfl
              refine ⟨wanted_of (ops := _) (j := 7) (b := false) rfl rfl rfl eg, ?_⟩
              clear eg
              have e0 : a.tmps.getD 212 undef = .pointer (some ⟨n, 0, none⟩) := hd 11 _ rfl rfl
              go_simp
              exact ⟨_, rfl, rfl, Below.refl _ _⟩
            · intro a W hR hoff hd
              left
              have eg : a.tmps.getD 208 undef = .bool false := hd 7 _ rfl rfl
              refine ⟨wanted_of (ops := _) (j := 7) (b := false) rfl rfl rfl eg, ?_⟩
              clear eg
              have e0 : a.tmps.getD 213 undef = .pointer (some ⟨n, 4, none⟩) := hd 12 _ rfl rfl
              obtain ⟨y0, y1, y2, y3, y4, _⟩ := rjn_cells (HTC.out W hR).rj
              go_simp
              exact ⟨_, rfl, rfl, Below.refl _ _⟩
            · intro a W hR hoff hd
              left
              have eg : a.tmps.getD 208 undef = .bool false := hd 7 _ rfl rfl
              refine ⟨wanted_of (ops := _) (j := 7) (b := false) rfl rfl rfl eg, ?_⟩
              clear eg
              have e0 : a.tmps.getD 210 undef = .int .i64 (S1.cn : Int) := hd 9 _ rfl rfl
              have e1 : a.tmps.getD 214 undef = .int .i64 (S1.cn : Int) := hd 13 _ rfl rfl
              go_simp
              exact ⟨_, rfl, rfl, Below.refl _ _⟩
            · intro a W hR hoff hd
              left
              refine ⟨rfl, ?_⟩
              have e0 : a.tmps.getD 208 undef = .bool false := hd 7 _ rfl rfl
              have e1 : a.tmps.getD 215 undef = .bool false := hd 14 _ rfl rfl
              go_simp
              exact ⟨_, rfl, rfl, Below.refl _ _⟩
            · intro a W hR hoff hd
              left
              refine ⟨rfl, ?_⟩
              have e0 : a.tmps.getD 216 undef = .bool false := hd 15 _ rfl rfl
              go_simp
              exact ⟨_, rfl, rfl, Below.refl _ _⟩
            · intro a W hR hoff hd
              left
              have eg : a.tmps.getD 217 undef = .bool false := hd 16 _ rfl rfl
              refine ⟨wanted_of (ops := _) (j := 16) (b := false) rfl rfl rfl eg, ?_⟩
              clear eg
              have e0 : a.tmps.getD 5 undef = .pointer (some ⟨g, 0, none⟩) := hoff.slot 5 (no_dst (by kernel_rfl))
              go_simp
              exact ⟨_, rfl, rfl, Below.refl _ _⟩
            · intro a W hR hoff hd
              left
              have eg : a.tmps.getD 217 undef = .bool false := hd 16 _ rfl rfl
              refine ⟨wanted_of (ops := _) (j := 16) (b := false) rfl rfl rfl eg, ?_⟩
              clear eg
              have e0 : a.tmps.getD 218 undef = .pointer (some ⟨g, 0, none⟩) := hd 17 _ rfl rfl
              have HQ := Lib.hid (HTC.out W hR)
              go_simp
              refine (down_mine HQ.out.p.1).mono ?_
              rintro e W2 ⟨rfl, rfl⟩
              exact ⟨_, rfl, rfl, Below.refl _ _⟩
            · intro a W hR hoff hd
              left
              have eg : a.tmps.getD 217 undef = .bool false := hd 16 _ rfl rfl
              refine ⟨wanted_of (ops := _) (j := 16) (b := false) rfl rfl rfl eg, ?_⟩
              clear eg
              have e0 : a.tmps.getD 6 undef = .pointer (some ⟨m, 0, none⟩) := hoff.slot 6 (no_dst (by kernel_rfl))
              go_simp
              exact ⟨_, rfl, rfl, Below.refl _ _⟩
            · intro a W hR hoff hd
              left
              have eg : a.tmps.getD 217 undef = .bool false := hd 16 _ rfl rfl
              refine ⟨wanted_of (ops := _) (j := 16) (b := false) rfl rfl rfl eg, ?_⟩
              clear eg
              have e0 : a.tmps.getD 220 undef = .pointer (some ⟨m, 0, none⟩) := hd 19 _ rfl rfl
              go_simp
              exact ⟨_, rfl, rfl, Below.refl _ _⟩
            · intro a W hR hoff hd
              left
              have eg : a.tmps.getD 217 undef = .bool false := hd 16 _ rfl rfl
              refine ⟨wanted_of (ops := _) (j := 16) (b := false) rfl rfl rfl eg, ?_⟩
              clear eg
              have e0 : a.tmps.getD 221 undef = .pointer (some ⟨m, 0, none⟩) := hd 20 _ rfl rfl
              go_simp
              exact ⟨_, rfl, rfl, Below.refl _ _⟩
            · intro a W hR hoff hd
              left
              have eg : a.tmps.getD 217 undef = .bool false := hd 16 _ rfl rfl
              refine ⟨wanted_of (ops := _) (j := 16) (b := false) rfl rfl rfl eg, ?_⟩
              clear eg
              have e0 : a.tmps.getD 222 undef = .pointer (some ⟨m, 4, none⟩) := hd 21 _ rfl rfl
              obtain ⟨y2, y4⟩ := HCM.out W hR
              go_simp
              exact ⟨_, rfl, rfl, Below.refl _ _⟩
            · intro a W hR hoff hd
              left
              have eg : a.tmps.getD 217 undef = .bool false := hd 16 _ rfl rfl
              refine ⟨wanted_of (ops := _) (j := 16) (b := false) rfl rfl rfl eg, ?_⟩
              clear eg
              have e0 : a.tmps.getD 219 undef = .bool (decide (S1.d.left = 0)) := hd 18 _ rfl rfl
              have e1 : a.tmps.getD 223 undef = .bool (decide (S1.d.left = 0)) := hd 22 _ rfl rfl
              go_simp
              exact ⟨_, rfl, rfl, Below.refl _ _⟩
            · intro a W hR hoff hd
              left
              refine ⟨rfl, ?_⟩
              have e0 : a.tmps.getD 217 undef = .bool false := hd 16 _ rfl rfl
              have e1 : a.tmps.getD 224 undef = .bool false := hd 23 _ rfl rfl
              go_simp
              exact ⟨_, rfl, rfl, Below.refl _ _⟩
            · intro a W hR hoff hd
              left
              refine ⟨rfl, ?_⟩
              have e0 : a.tmps.getD 225 undef = .bool false := hd 24 _ rfl rfl
              go_simp
              exact ⟨_, rfl, rfl, Below.refl _ _⟩
            · intro a W hR hoff hd
              left
              have eg : a.tmps.getD 226 undef = .bool false := hd 25 _ rfl rfl
              refine ⟨wanted_of (ops := _) (j := 25) (b := false) rfl rfl rfl eg, ?_⟩
              clear eg
              have e0 : a.tmps.getD 5 undef = .pointer (some ⟨g, 0, none⟩) := hoff.slot 5 (no_dst (by kernel_rfl))
              go_simp
              exact ⟨_, rfl, rfl, Below.refl _ _⟩
            · intro a W hR hoff hd
              left
              have eg : a.tmps.getD 226 undef = .bool false := hd 25 _ rfl rfl
              refine ⟨wanted_of (ops := _) (j := 25) (b := false) rfl rfl rfl eg, ?_⟩
              clear eg
              have e0 : a.tmps.getD 227 undef = .pointer (some ⟨g, 0, none⟩) := hd 26 _ rfl rfl
              have HQ := Lib.hid (HTC.out W hR)
              go_simp
              refine (waits_mine HQ.out.p.1).mono ?_
              rintro e W2 ⟨rfl, rfl⟩
              exact ⟨_, rfl, rfl, Below.refl _ _⟩
            · intro a W hR hoff hd
              left
              have eg : a.tmps.getD 226 undef = .bool false := hd 25 _ rfl rfl
              refine ⟨wanted_of (ops := _) (j := 25) (b := false) rfl rfl rfl eg, ?_⟩
              clear eg
              have e0 : a.tmps.getD 6 undef = .pointer (some ⟨m, 0, none⟩) := hoff.slot 6 (no_dst (by kernel_rfl))
              go_simp
              exact ⟨_, rfl, rfl, Below.refl _ _⟩
            · intro a W hR hoff hd
              left
              have eg : a.tmps.getD 226 undef = .bool false := hd 25 _ rfl rfl
              refine ⟨wanted_of (ops := _) (j := 25) (b := false) rfl rfl rfl eg, ?_⟩
              clear eg
              have e0 : a.tmps.getD 229 undef = .pointer (some ⟨m, 0, none⟩) := hd 28 _ rfl rfl
              go_simp
              exact ⟨_, rfl, rfl, Below.refl _ _⟩
            · intro a W hR hoff hd
              left
              have eg : a.tmps.getD 226 undef = .bool false := hd 25 _ rfl rfl
              refine ⟨wanted_of (ops := _) (j := 25) (b := false) rfl rfl rfl eg, ?_⟩
              clear eg
              have e0 : a.tmps.getD 230 undef = .pointer (some ⟨m, 0, none⟩) := hd 29 _ rfl rfl
              go_simp
              exact ⟨_, rfl, rfl, Below.refl _ _⟩
            · intro a W hR hoff hd
              left
              have eg : a.tmps.getD 226 undef = .bool false := hd 25 _ rfl rfl
              refine ⟨wanted_of (ops := _) (j := 25) (b := false) rfl rfl rfl eg, ?_⟩
              clear eg
              have e0 : a.tmps.getD 231 undef = .pointer (some ⟨m, 2, none⟩) := hd 30 _ rfl rfl
              obtain ⟨y2, y4⟩ := HCM.out W hR
              go_simp
              exact ⟨_, rfl, rfl, Below.refl _ _⟩
            · intro a W hR hoff hd
              left
              have eg : a.tmps.getD 226 undef = .bool false := hd 25 _ rfl rfl
              refine ⟨wanted_of (ops := _) (j := 25) (b := false) rfl rfl rfl eg, ?_⟩
              clear eg
              have e0 : a.tmps.getD 232 undef = .slice AB S1.d.buf.length cB := hd 31 _ rfl rfl
              go_simp
              exact ⟨_, rfl, rfl, Below.refl _ _⟩
            · intro a W hR hoff hd
              left
              have eg : a.tmps.getD 226 undef = .bool false := hd 25 _ rfl rfl
              refine ⟨wanted_of (ops := _) (j := 25) (b := false) rfl rfl rfl eg, ?_⟩
              clear eg
              have e0 : a.tmps.getD 228 undef = .int .i64 (S1.d.buf.length : Int) := hd 27 _ rfl rfl
              have e1 : a.tmps.getD 233 undef = .int .i64 (S1.d.buf.length : Int) := hd 32 _ rfl rfl
              go_simp
              exact ⟨_, rfl, rfl, Below.refl _ _⟩
            · intro a W hR hoff hd
              left
              refine ⟨rfl, ?_⟩
              have e0 : a.tmps.getD 226 undef = .bool false := hd 25 _ rfl rfl
              have e1 : a.tmps.getD 234 undef = .bool false := hd 33 _ rfl rfl
              go_simp
              exact ⟨_, rfl, rfl, Below.refl _ _⟩
          · intro a W hR hoff hf
            have e235 : a.tmps.getD 235 undef = .bool false := hf 34 _ rfl
            have HPW := Lib.hid (HTC.out W hR)
            obtain ⟨ys, hys, ha⟩ := off_form hoff (mask := [false, false, false, false, false, false, false, false, false, false, false, false, false, false, false, false, false, false, false, false, false, false, false, false, false, false, false, false, false, false, false, false, false, false, false, false, false, false, false, false, false, false, false, false, false, false, false, false, false, false, false, false, false, false, false, false, false, false, false, false, false, false, false, false, false, false, false, false, false, false, false, false, false, false, false, false, false, false, false, false, false, false, false, false, false, false, false, false, false, false, false, false, false, false, false, false, false, false, false, false, false, false, false, false, false, false, false, false, false, false, false, false, false, false, false, false, false, false, false, false, false, false, false, false, false, false, false, false, false, false, false, false, false, false, false, false, false, false, false, false, false, false, false, false, false, false, false, false, false, false, false, false, false, false, false, false, false, false, false, false, false, false, false, false, false, false, false, false, false, false, false, false, false, false, false, false, false, false, false, false, false, false, false, false, false, false, false, false, false, false, false, false, false, false, false, false, false, false, false, false, false, true, true, true, true, true, true, true, true, true, true, true, true, true, true, true, true, true, true, true, true, true, true, true, true, true, true, true, true, true, true, true, true, true, true, true, false, false, false, false, false, false, false, false, false, false, false, false, false, false, false, false, false, false, false, false, false, false, false, false, false, false]) (by kernel_rfl)
            rw [hys] at e235
            rename_i hK
            subst ha
            refine hK _ _ ?_
            clear hf hoff hys hR HTC HCM HP
            simp only [fillFrom, e235, Nat.zero_add, Nat.reduceAdd]
            go_wp2_with fail
            go_loopw [23] (fun i wx => ∃ t : Nat, t ≤ 6 ∧ i = .int .i64 (t : Int) ∧ PJ w1 wx j g n m S1 S1 u) (fun i _ => 6 - (intOf i).toNat)
            case atStart => exact ⟨0, by omega, rfl, HPW.out⟩
            case round =>
              obtain ⟨t, ht, rfl, hQ⟩ := hrel
              have HQ := Lib.hid hQ
              clear hQ HPW
              by_cases htl : (t : Int) < 6
              · go_wp2_with fail
                refine (read_same HQ.out.p.1 (t : Int) hbl1).mono ?_
                rintro e y1 ⟨v1, rfl, A3, n3, c3, l3, rfl, hh3, hl3, hb3⟩
                have HH3 := Lib.hid hh3
                have HL3 := Lib.hid hl3
                have HQ1 := Lib.hid (HQ.out.below hb3)
                clear hh3 hl3 hb3 HQ
                go_wp2_with fail
                refine (rread_same HQ1.out.r (t : Int) hbl1).mono ?_
                rintro e y2 ⟨v2, rfl, A5, n5, c5, l5, rfl, hh5, hl5, hb5⟩
                have ct3 := conv_hold (HH3.out.below hb5)
                have ct5 := conv_hold hh5
                rw [hl5, ← HL3.out] at ct5
                have HQ2 := Lib.hid (HQ1.out.below hb5)
                clear hh5 hl5 hb5 HH3 HL3 HQ1
                generalize S1.d.refuse (t : Int) = rr at *
                go_wp2_with fail
                go_roundw
                case rel => first | exact ⟨t + 1, by omega, by go_num, HQ2.out⟩ | ((repeat apply Exists.intro); exact ⟨⟨t + 1, by omega, by go_num, HQ2.out⟩, rfl⟩)
                case measure => simp [intOf]; omega
              · go_wp2_with fail
                go_roundw
                case rel => first | exact ⟨k + 1, j, n, S1, u, by omega, by go_num, rfl, rfl, HQ.out, HSO.out, HSF.out, HST.out, HSB.out, HUU.out⟩ | ((repeat apply Exists.intro); exact ⟨⟨k + 1, j, n, S1, u, by omega, by go_num, rfl, rfl, HQ.out, HSO.out, HSF.out, HST.out, HSB.out, HUU.out⟩, rfl⟩)
                case measure => simp [intOf]; omega
  · have hn4 := hno4 h0
    subst hn4
    as_aux_lemma =>
      clear hno4 hyes4 ha1
      go_wp2_with fail
      refine (po_r (x := ⟨s0, 0, 0, 0, 0⟩) HR4.out a1 a2 0 0 hbl0).mono ?_
      rintro e w5 ⟨hb5, hno5, -⟩
      have hn5 := hno5 h0
      subst hn5
      have HH5 := Lib.hid (H4.out.b.trans (hb5.mono H4.out.b.size))
      clear hno5 hb5 H4 HR4 cz0 cz1 cz2
      generalize s0.openErr a1 a2 0 0 = er at *
      clear h0 hb0 hl0 hbl0
      go_wp2_with fail
      refine (awake_any w5).mono ?_
      rintro e w6 ⟨rfl, hb6⟩
      have HH6 := Lib.hid (HH5.out.trans (hb6.mono HH5.out.size))
      clear hb6 HH5
      go_wp2_with fail
      go_loopw [7, 10, 13] (fun v7 v10 i wr => v7 = .pointer none ∧ v10 = .pointer none ∧ i = .int .i64 0 ∧ Below w1.heap.size w1 wr) (fun _ _ _ _ => 0)
      case atStart => exact ⟨rfl, rfl, rfl, HH6.out⟩
      case round =>
        obtain ⟨rfl, rfl, rfl, hbz⟩ := hrel
        have HBZ := Lib.hid hbz
        clear hbz HH6
        by_cases hN0 : (0 : Int) < (N : Int)
        · go_wp2_with fail
          go_ret
          exact ⟨rfl, HBW.out.trans (HBZ.out.mono HBW.out.size)⟩
        · go_wp2_with fail
          go_ret
          exact ⟨rfl, HBW.out.trans (HBZ.out.mono HBW.out.size)⟩
end Go.Proofs.Ytkghjgpeobacjaa
