/-
  What is proved: the walk of the law JournalTorn: for all frames and whatever fate it returns true and turns nothing that was there. Conditions: the numbers of bytes and frames are within Go's own reach.
-/
import Derived.Test.YtkghjgpeobacjaaTorn
namespace Go.Proofs.Ytkghjgpeobacjaa
open Go.RowKit

def TornR (w : World) (j g N : Nat) (v i : Value) (wr : World) : Prop :=
  ∃ (k : Nat) (x : JS) (fs : List (List UInt8)), k ≤ N ∧ k ≤ 20 ∧ i = .int .i64 (k : Int) ∧ Calm0 x ∧ Has x fs ∧ x.fr = 0 ∧ x.to = 300 ∧ x.en ≤ 216 * k ∧ fs.length ≤ k ∧ Laid w wr v fs ∧ JM w wr j g x

set_option maxRecDepth 100000 in
set_option maxHeartbeats 4000000 in
theorem journalTorn_walk (B : Option Addr) (N C : Nat) (ps : List Part) (A : Option Addr) (n c : Nat) (l : List UInt8) (f0 f1 f2 : Int) (w : World) (hps : Rows0 w B N ps) (hl : Hold w A n c l) (hN : N ≤ 140737488355328) (hn : n ≤ 140737488355328)
    (hf0 : -9223372036854775808 ≤ f0) (hf0' : f0 ≤ 9223372036854775807) :
    Calls Try.prog 4 #[.slice B N C, .slice A n c, .agg #[.int .i64 f0, .int .i64 f1, .int .i64 f2]] w fun e w' => e = .returned (.bool true) ∧ Below w.heap.size w w' := by
  have hpl := hps.1
  obtain ⟨w1, hw1⟩ : ∃ w1, w1 = w.alloc (.cells #[.int .i64 f0, .int .i64 f1, .int .i64 f2] 22) := ⟨_, rfl⟩
  have hbw : Below w.heap.size w w1 := by rw [hw1]; exact (Below.refl _ _).alloc (Nat.le_refl _) _
  have HPS := Lib.hid (hps.below hbw)
  have HL := Lib.hid (hl.below hbw)
  have HBW := Lib.hid hbw
  have hll := Lib.hid hl.1
  have HW1 := Lib.hid hw1
  have HBX : Hid (∀ W, Below w1.heap.size w1 W → W.cell? ⟨w.heap.size, 0, none⟩ = some (.int .i64 f0) ∧ W.cell? ⟨w.heap.size, 1, none⟩ = some (.int .i64 f1) ∧ W.cell? ⟨w.heap.size, 2, none⟩ = some (.int .i64 f2)) := Lib.hid fun W hb => by
    rw [hw1] at hb
    exact ⟨box_cell hb 0 rfl, box_cell hb 1 rfl, box_cell hb 2 rfl⟩
  clear hps hl hbw hw1
  go_enter Try.func4, Try.ntmps4
  go_wp2_with fail
  rw [← HW1.out]
  refine (new_mine w1 w1 300 (Below.refl _ _)).mono ?_
  rintro e w2 ⟨g, rfl, h2, _, _⟩
  have H2 : Hid (Mine w1 w2 g (newSt 300)) := h2
  clear h2
  go_wp2_with fail
  refine (open_zero H2.out 0 300 (by decide) (by simp [newSt]) (by decide) (by decide)).mono ?_
  rintro e w3 ⟨j, B0, C0, rfl, h3, -⟩
  have H3 := Lib.hid h3
  clear h3 H2
  go_wp2_with fail
  refine (awake_any w3).mono ?_
  rintro e w4 ⟨rfl, hb4⟩
  have H4 := Lib.hid (H3.out.below hb4)
  clear H3 hb4
  go_wp2_with fail
  go_loopw [11, 12] (fun v i wr => TornR w1 j g N v i wr) (fun _ i _ => N - (intOf i).toNat)
  case atStart => exact ⟨0, _, [], by omega, by omega, rfl, Calm0.zero (by decide) (by decide), Has.zero (newSt_ok 300 (by decide) (by decide)) (by decide) (by simp [newSt]), rfl, rfl, by simp, by simp, Laid.nil _ _, H4.out⟩
  case round =>
    obtain ⟨k, x, fs, hk, hk20, rfl, hcx, hx, hfr, hto, hen, hfl, hlaid, hM⟩ := hrel
    have HCX := Lib.hid hcx
    have HX := Lib.hid hx
    have HLD := Lib.hid hlaid
    have HM := Lib.hid hM
    clear hcx hx hlaid hM H4
    by_cases hlt : k < N ∧ k < 20
    · obtain ⟨hltN, hlt20⟩ := hlt
      obtain ⟨b, off, hl, rfl, hc, hh⟩ := (HPS.out.below HM.out.b).at hltN
      have HHW := Lib.hid (HPS.out.2.1 _ (List.getElem_mem hl))
      have HCB : Hid (∀ W, Below w1.heap.size w1 W → W.cell? ⟨b, off + k, none⟩ = some ps[k].val) := Lib.hid fun W hb => by
        obtain ⟨b', off', _, e, hc', _⟩ := (HPS.out.below hb).at hltN
        injection e with e
        injection e with e1 e2
        subst e1 e2
        exact hc'
      generalize ps[k] = p at *
      obtain ⟨pA, pn, pc, pl⟩ := p
      simp only [Part.val] at hc hh HHW HCB
      have hpl2 := Lib.hid hh.1
      have HHB := Lib.hid hh
      clear hh
      have hk0 : (0 : Int) ≤ (k : Int) := Int.natCast_nonneg _
      have hk1 : (k : Int) < (N : Int) := by omega
      have hk2 : (k : Int) < 20 := by omega
      by_cases hlen : (pn : Int) ≤ 200
      · obtain ⟨g1, g2, g3, g4, g5, g6, g7⟩ := HCX.out.has_app HX.out (b := pl) (by rw [hpl2.out]; omega) (by rw [hpl2.out, hfr, hto]; omega)
        have G1 := Lib.hid g1
        have G2 := Lib.hid g2
        have G3 := Lib.hid g3
        rw [hpl2.out] at g6
        clear g1 g2 g3
        go_wp2_with fail
        refine (append_jm HM.out HX.out.ok pA pn pc pl HHB.out (by omega) (by rw [HCX.out.buf]; decide)).mono ?_
        rintro e w5 ⟨rfl, h5, ho5⟩
        rw [G1.out]
        have H5 := Lib.hid h5
        have HLD5 := Lib.hid (HLD.out.others ho5)
        have hc5 := HCB.out w5 h5.b
        clear h5 ho5 HM HLD hc
        generalize x.app pl = y at *
        go_wp2_with (at_builtin; refine wpList_lay (w := w1) (wr := w5) rfl (.tmp 58) (.tmp 63) rfl rfl rfl rfl HLD5.out HHW.out H5.out.b (by omega) ?_; intro v' w' hl' hb' hjm; have HL' := Lib.hid hl'; have H6 := Lib.hid (hjm (Nat.le_refl _) H5.out); clear hl' hb' hjm)
        go_roundw
        case rel => exact ⟨k + 1, y, fs ++ [pl], by omega, by omega, by go_num, G2.out, G3.out, by omega, by omega, by omega, by simp; omega, HL'.out, H6.out⟩
        case measure => simp [intOf]; omega
      · go_wp2_with fail
        go_roundw
        case rel => exact ⟨k + 1, x, fs, by omega, by omega, by go_num, HCX.out, HX.out, by omega, by omega, by omega, by omega, HLD.out, HM.out⟩
        case measure => simp [intOf]; omega
    · have hnot : (¬ (k : Int) < (N : Int)) ∨ ((k : Int) < (N : Int) ∧ ¬ (k : Int) < 20) := by omega
      clear hlt
      obtain ⟨v, C1, rfl⟩ := HLD.out.form
      obtain ⟨y, hy, yok, yb, ybl, ycr, yend⟩ := HX.out.torn HCX.out.buf f0 hf0 hf0' l
      have YOK := Lib.hid yok
      have YB := Lib.hid yb
      have YC := Lib.hid ycr
      have YE := Lib.hid yend
      have HY := Lib.hid hy
      clear hy yok yb ycr yend
      rcases hnot with hnot | ⟨hnot1, hnot2⟩
      all_goals
        go_wp2_with fail
        refine (jend_jm HM.out).mono ?_
        rintro e w5 ⟨rfl, rfl⟩
        go_wp2_with fail
        refine (jcount_jm HM.out).mono ?_
        rintro e w5 ⟨rfl, rfl⟩
        obtain ⟨bx0, bx1, bx2⟩ := HBX.out w5 HM.out.b
        go_wp2_with fail
        refine (arm_jm HM.out f0 hf0 hf0').mono ?_
        rintro e w6 ⟨rfl, h6, ho6⟩
        rw [← HY.out] at h6
        have H6 := Lib.hid h6
        have HLD6 := Lib.hid (HLD.out.others ho6)
        clear h6 ho6 HM HLD bx0 bx1 bx2
        go_wp2_with fail
        refine (append_jm H6.out YOK.out A n c l (HL.out.below H6.out.b) (by omega) (by rw [YB.out]; decide)).mono ?_
        rintro e w7 ⟨rfl, h7, ho7⟩
        have H7 := Lib.hid h7
        have HLD7 := Lib.hid (HLD6.out.others ho7)
        obtain ⟨bx0, bx1, bx2⟩ := HBX.out w7 h7.b
        clear h7 ho7 H6 HLD6
        go_wp2_with fail
        refine (crash_jm H7.out f1 f2 (by omega)).mono ?_
        rintro e w8 ⟨rfl, h8, ho8⟩
        have H8 := Lib.hid h8
        have HLD8 := Lib.hid (HLD7.out.others ho8)
        clear h8 ho8 H7 HLD7 bx0 bx1 bx2
        have HOP := Lib.hid (open_mine_has (x := ⟨(y.app l).d.cSt f1 f2, x.fr, x.to, x.en, x.cn⟩) H8.out.1 (YC.out f1 f2) (show (-1 : Int) ≠ 0 by decide) (show (0 : Nat) ≤ _ by decide))
        dsimp only at HOP
        rw [hfr, hto] at HOP
        go_wp2_with fail
        refine HOP.out.mono ?_
        rintro e w9 ⟨j9, B9, C9, rfl, ⟨ps9, hr9, hm9⟩, hb9⟩
        have H9 := Lib.hid (H8.out.below hb9)
        have HLD9 := Lib.hid (HLD8.out.below hb9)
        have HS9 : Hid (∀ C C', Calls Try.prog 19 #[.slice B9 fs.length C, .slice v fs.length C'] w9 fun e w' => e = .returned (.bool true) ∧ Below w9.heap.size w9 w') := Lib.hid fun C C' => by
          obtain ⟨qs, hq1, hq2⟩ := HLD9.out.rows H9.out.b rfl
          exact same_any w9 B9 v fs.length C C' ps9 qs hr9 hq1 (by rw [hm9, hq2]) (by omega)
        clear hb9 hr9 hm9 HOP H8 HLD8
        go_wp2_with fail
        refine (HS9.out _ _).mono ?_
        rintro e w10 ⟨rfl, hb10⟩
        have H10 := Lib.hid (H9.out.below hb10)
        have HLD10 := Lib.hid (HLD9.out.below hb10)
        clear hb10 H9 HLD9 HS9
        rcases YE.out with ⟨q0, q1, q2, q3, q4⟩ | ⟨q0, q1⟩
        · have q3' : ((y.app l).en : Int) = (x.en : Int) := by rw [q3]
          have q4' : ((y.app l).cn : Int) = (x.cn : Int) := by rw [q4]
          clear q1 q2 q3 q4 YE
          go_wp2_with fail
          refine (jend_jm H10.out).mono ?_
          rintro e w11 ⟨rfl, rfl⟩
          dsimp only
          rw [q3']
          go_wp2_with fail
          refine (jcount_jm H10.out).mono ?_
          rintro e w11 ⟨rfl, rfl⟩
          dsimp only
          rw [q4']
          go_wp2_with fail
          go_ret
          exact ⟨rfl, HBW.out.trans (H10.out.b.mono HBW.out.size)⟩
        · obtain ⟨q2, q3, q4⟩ := q1 f1 f2
          have Q2 := Lib.hid q2
          clear q1 q2 YE
          go_wp2_with (at_builtin; refine wpList_lay (w := w1) (wr := w10) rfl (.tmp 110) (.tmp 112) rfl rfl rfl rfl HLD10.out HL.out H10.out.b (by omega) ?_; intro v' w11 hl' hb' hjm; have HL11 := Lib.hid hl'; have H11 := Lib.hid (hjm (Nat.le_refl _) H10.out); clear hl' hb' hjm)
          have hlen2 : (fs ++ [l]).length ≤ 21 := by simp; omega
          generalize fs ++ [l] = fs2 at *
          obtain ⟨v2, C2, rfl⟩ := HL11.out.form
          have HOP := Lib.hid (open_mine_has (x := ⟨(y.app l).d.cSt f1 f2, (y.app l).fr, (y.app l).to, (y.app l).en, (y.app l).cn⟩) H11.out.1 Q2.out (show (-1 : Int) ≠ 0 by decide) (show (0 : Nat) ≤ _ by decide))
          dsimp only at HOP
          rw [q3, q4, hfr, hto] at HOP
          refine (jend_jm H11.out).mono ?_
          rintro e w12 ⟨rfl, rfl⟩
          go_wp2_with fail
          refine (jcount_jm H11.out).mono ?_
          rintro e w12 ⟨rfl, rfl⟩
          go_wp2_with fail
          refine HOP.out.mono ?_
          rintro e w13 ⟨j13, B13, C13, rfl, ⟨ps13, hr13, hm13⟩, hb13⟩
          have H13 := Lib.hid (H11.out.below hb13)
          have HLD13 := Lib.hid (HL11.out.below hb13)
          have HS13 : Hid (∀ C C', Calls Try.prog 19 #[.slice B13 fs2.length C, .slice v2 fs2.length C'] w13 fun e w' => e = .returned (.bool true) ∧ Below w13.heap.size w13 w') := Lib.hid fun C C' => by
            obtain ⟨qs, hq1, hq2⟩ := HLD13.out.rows H13.out.b rfl
            exact same_any w13 B13 v2 fs2.length C C' ps13 qs hr13 hq1 (by rw [hm13, hq2]) (by omega)
          clear hb13 hr13 hm13 HOP H11 HL11
          go_wp2_with fail
          refine (HS13.out _ _).mono ?_
          rintro e w14 ⟨rfl, hb14⟩
          have H14 := Lib.hid (H13.out.below hb14)
          clear hb14 H13 HLD13 HS13
          go_wp2_with fail
          go_ret
          exact ⟨rfl, HBW.out.trans (H14.out.b.mono HBW.out.size)⟩
end Go.Proofs.Ytkghjgpeobacjaa
