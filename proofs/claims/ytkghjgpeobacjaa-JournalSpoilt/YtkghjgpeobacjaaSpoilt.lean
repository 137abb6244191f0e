/-
  What is proved: the walk of the law JournalSpoilt: for all frames, every place and every four bytes it returns true and turns nothing that was there. Conditions: the number of frames is within Go's own reach.
-/
import Derived.Test.YtkghjgpeobacjaaSpw
namespace Go.Proofs.Ytkghjgpeobacjaa
open Go.RowKit

def SpR (w : World) (j g N : Nat) (v1 v2 i : Value) (wr : World) : Prop :=
  ∃ (k : Nat) (x : JS) (fs : List (List UInt8)), k ≤ N ∧ k ≤ 10 ∧ i = .int .i64 (k : Int) ∧ Calm0 x ∧ Has x fs ∧ x.fr = 0 ∧ x.to = 100 ∧ x.d.last.length = 100 ∧ x.en ≤ 116 * k ∧ fs.length ≤ k ∧ (∀ b ∈ fs, b.length ≤ 100) ∧ NR2 w wr v1 v2 (stOf fs) (szOf fs) ∧ JM w wr j g x
theorem NR2.cell {w wr : World} {Q n c : Nat} {v2 : Value} {xs1 xs2 : List Int} (h : NR2 w wr (.slice (some ⟨Q, 0, none⟩) n c) v2 xs1 xs2) {k : Nat} (hk : k < xs1.length) : wr.cell? ⟨Q, k, none⟩ = some (.int .i64 xs1[k]) := by
  obtain ⟨Q', c', e, hc⟩ := h.get hk
  injection e with e1 e2 e3
  injection e1 with e1
  injection e1 with e1
  subst e1
  exact hc
def SpT (w : World) (j g : Nat) (fs : List (List UInt8)) (k : Nat) (b : List UInt8) (q en cn : Nat) (bs : List UInt8) (v1 v2 : Value) (tu i : Value) (wr : World) : Prop :=
  ∃ (m : Nat) (d : D), m ≤ 4 ∧ q + m ≤ b.length ∧ i = .int .i64 (m : Int) ∧ tu = .bool (!(allz (bs.take m))) ∧ Turned d en m (Zx (fs.take k) (fs.drop (k + 1)) b (mixed b q (bs.take m))) ∧ JM w wr j g ⟨d, 0, 100, en, cn⟩ ∧ NR2 w wr v1 v2 (stOf fs) (szOf fs)
theorem turned_zero {x : JS} {fs : List (List UInt8)} (hc : Calm0 x) (h : Has x fs) (hfr : x.fr = 0) (hdl : x.d.last.length = 100) {k : Nat} (hk : k < fs.length) : Turned x.d x.en 0 (Zx (fs.take k) (fs.drop (k + 1)) fs[k] fs[k]) := by
  refine ⟨h.dok, hc.up, by rw [hc.buf]; exact Nat.le_refl _, hdl, ?_⟩
  have ha := h.area
  rw [h.dok.area_flat h.ok.sectors, hfr, Nat.mul_zero, List.drop_zero] at ha
  exact ha.trans ((congrArg framesOf (parted fs k hk)).trans (Zx_self _ _ _))
/-- the line that turns a byte: the world, by whether the store has come up -/
def stJ (V V' : World) (ls : Nat → Bool) (_ : Act) (w : World) : Prop := w = if ls 13 = true then V' else V
theorem stJ.pure {V V' w : World} {ls : Nat → Bool} {a : Act} (h : stJ V V' ls a w) {i : Nat} (hi : i ≠ 13) (a' : Act) : stJ V V' (updB ls i) a' w := by
  unfold stJ at *
  rw [updB_other ls (Ne.symm hi)]
  exact h
theorem stJ.is {V V' w : World} {ls : Nat → Bool} {a : Act} (h : stJ V V' ls a w) (h13 : ls 13 = false) : w = V := by
  unfold stJ at h
  rw [h13] at h
  exact h
theorem stJ.done {V V' w : World} {ls : Nat → Bool} {a : Act} (h : stJ V V' ls a w) (h13 : ls 13 = true) : w = V' := by
  unfold stJ at h
  rw [h13] at h
  exact h
theorem stJ.put {V V' : World} {ls : Nat → Bool} (a' : Act) : stJ V V' (updB ls 13) a' V' := by
  unfold stJ
  rw [updB_at]
  rfl
def stF (kb r bx m : Nat) (pl : Int) (X Y : Nat) : Nat → Value → Prop
  | 0, v | 3, v => v = .slice (some ⟨kb, 0, none⟩) 64 64
  | 1, v | 4, v => v = .int .i64 pl
  | 2, v | 5, v => v = .int .i64 (r : Int)
  | 6, v | 12, v => v = .pointer (some ⟨kb, r, none⟩)
  | 7, v => v = .int .u8 (X : Int)
  | 8, v => v = .int .i64 (m : Int)
  | 9, v => v = .pointer (some ⟨bx, m, none⟩)
  | 10, v => v = .int .u8 (Y : Int)
  | 11, v => v = .int .u8 ((X ^^^ Y : Nat) : Int)
  | _, _ => True
/-- a round of the law's last loop: the byte that is turned, the disk then -/
theorem spoilt_round {d : D} {en m k q S p : Nat} {fs : List (List UInt8)} (hk : k < fs.length) {bs : List UInt8} (hS : S = (framesOf (fs.take k)).length + 16) (hpi : (framesOf (fs.take k)).length + 16 + fs[k].length ≤ (framesOf fs).length) (hxe : en = (framesOf fs).length) (hen : en ≤ 6400)
    (h : Turned d en m (Zx (fs.take k) (fs.drop (k + 1)) fs[k] (mixed fs[k] q (bs.take m)))) (hm : m < bs.length) (hq : q + m < fs[k].length) (hp : p = S + q + m) :
    ∃ X : UInt8, d.refuse ((p / 64 : Nat) : Int) = 0 ∧ d.wErr ((p / 64 : Nat) : Int) 64 = 0 ∧ (d.told (p / 64))[p % 64]? = some X ∧ (d.told (p / 64)).length = 64 ∧ d.buf.length ≤ m ∧ Turned (d.wSt ((p / 64 : Nat) : Int) ((d.told (p / 64)).set (p % 64) (X ^^^ bs[m]))) en (m + 1) (Zx (fs.take k) (fs.drop (k + 1)) fs[k] (mixed fs[k] q (bs.take (m + 1)))) := by
  have hl := mixed_length fs[k] q (bs.take m)
  obtain ⟨f1, f2, f3, f4, f5⟩ := h.step hen (q := q + m) (by rw [hl]; exact hq) (by omega) (fs[k][q + m] ^^^ bs[m]) (p := p) (by omega)
  rw [mixed_get _ _ _ _ hq, List.getElem?_eq_getElem hq] at f3
  rw [mixed_set fs[k] q bs m hm hq] at f5
  exact ⟨fs[k][q + m], f1, f2, f3, f4, h.buf, f5⟩
/-- a sector that was read, and of which one byte is turned -/
theorem sector_set {W : World} {kb : Nat} {l : List UInt8} (h : W.heap[kb]? = some (.cells (bv l).toArray 86 (0, 0))) (hl : l.length = 64) (r : Nat) (v : UInt8) : Hold (W.setCell ⟨kb, r, none⟩ (.int .u8 (v.toNat : Int))) (some ⟨kb, 0, none⟩) 64 64 (l.set r v) := by
  have h1 := heap_setCell_at h r (.int .u8 (v.toNat : Int))
  have e : (bv l).toArray.setIfInBounds r (.int .u8 (v.toNat : Int)) = (bv (l.set r v)).toArray := by
    rw [← bv_set]
    simp
  rw [e] at h1
  exact Hold.block h1 64 (by rw [List.length_set, hl])
theorem sector_get {W : World} {kb : Nat} {l : List UInt8} (h : W.heap[kb]? = some (.cells (bv l).toArray 86 (0, 0))) (r : Nat) {v : UInt8} (hv : l[r]? = some v) : W.cell? ⟨kb, r, none⟩ = some (.int .u8 (v.toNat : Int)) ∧ W.frozen? ⟨kb, r, none⟩ = false := by
  refine ⟨?_, by simp [World.frozen?, h]⟩
  rw [cell_of_row W kb r _ 86 (0, 0) h]
  obtain ⟨h1, h2⟩ := List.getElem?_eq_some_iff.1 hv
  have := (bv_get l r (.int .u8 (l[r].toNat : Int))).2 ⟨h1, rfl⟩
  rw [h2] at this
  simpa using this

set_option maxRecDepth 100000 in
set_option maxHeartbeats 4000000 in
theorem journalSpoilt_walk (B : Option Addr) (N C : Nat) (ps : List Part) (m1 : Nat) (a2 : Int) (y0 y1 y2 y3 : UInt8) (w : World) (hps : Rows0 w B N ps) (hN : N ≤ 140737488355328) (hm1 : m1 < 256) (ha1 : -9223372036854775808 ≤ a2) (ha2 : a2 ≤ 9223372036854775807) :
    Calls Try.prog 5 #[.slice B N C, .int .u8 (m1 : Int), .int .i64 a2, .agg #[.int .u8 (y0.toNat : Int), .int .u8 (y1.toNat : Int), .int .u8 (y2.toNat : Int), .int .u8 (y3.toNat : Int)]] w fun e w' => e = .returned (.bool true) ∧ Below w.heap.size w w' := by
  have hpl := hps.1
  obtain ⟨w1, hw1⟩ : ∃ w1, w1 = w.alloc (.cells #[.int .u8 (y0.toNat : Int), .int .u8 (y1.toNat : Int), .int .u8 (y2.toNat : Int), .int .u8 (y3.toNat : Int)] 61) := ⟨_, rfl⟩
  have hbw : Below w.heap.size w w1 := by rw [hw1]; exact (Below.refl _ _).alloc (Nat.le_refl _) _
  have HPS := Lib.hid (hps.below hbw)
  have HBW := Lib.hid hbw
  have HW1 := Lib.hid hw1
  have HBX : Hid (∀ W, Below w1.heap.size w1 W → ∀ k (hk : k < [y0, y1, y2, y3].length), W.cell? ⟨w.heap.size, k, none⟩ = some (.int .u8 ([y0, y1, y2, y3][k].toNat : Int))) := Lib.hid fun W hb k hk => by
    rw [hw1] at hb
    match k, hk with
    | 0, _ => exact box_cell hb 0 rfl
    | 1, _ => exact box_cell hb 1 rfl
    | 2, _ => exact box_cell hb 2 rfl
    | 3, _ => exact box_cell hb 3 rfl
  have hbl : Hid ([y0, y1, y2, y3].length = 4) := Lib.hid rfl
  clear hps hbw hw1
  go_enter Try.func5, Try.ntmps5
  go_wp2_with fail
  rw [← HW1.out]
  refine (new_mine w1 w1 100 (Below.refl _ _)).mono ?_
  rintro e w2 ⟨g, rfl, h2, _, _⟩
  have H2 : Hid (Mine w1 w2 g (newSt 100)) := h2
  clear h2
  go_wp2_with fail
  refine (open_zero H2.out 0 100 (by decide) (by simp [newSt]) (by decide) (by decide)).mono ?_
  rintro e w3 ⟨j, B0, C0, rfl, h3, -⟩
  have H3 := Lib.hid h3
  clear h3 H2
  go_wp2_with fail
  refine (awake_any w3).mono ?_
  rintro e w4 ⟨rfl, hb4⟩
  have H4 := Lib.hid (H3.out.below hb4)
  clear H3 hb4
  go_wp2_with fail
  go_loopw [13, 14, 15] (fun v1 v2 i wr => SpR w1 j g N v1 v2 i wr) (fun _ _ i _ => N - (intOf i).toNat)
  case atStart => exact ⟨0, _, [], by omega, by omega, rfl, Calm0.zero (by decide) (by decide), Has.zero (newSt_ok 100 (by decide) (by decide)) (by decide) (by simp [newSt]), rfl, rfl, by simp [newSt], by simp, by simp, by simp, NR2.nil _ _, H4.out⟩
  case round =>
    obtain ⟨k, x, fs, hk, hk10, rfl, hcx, hx, hfr, hto, hdl, hen, hfl, hsh, hnr, hM⟩ := hrel
    have HCX := Lib.hid hcx
    have HX := Lib.hid hx
    have HNR := Lib.hid hnr
    have HM := Lib.hid hM
    have HSH := Lib.hid hsh
    clear hcx hx hnr hM H4 hsh
    by_cases hlt : k < N ∧ k < 10
    · obtain ⟨hltN, hlt10⟩ := hlt
      obtain ⟨b, off, hl, rfl, hc, hh⟩ := (HPS.out.below HM.out.b).at hltN
      have HCB : Hid (∀ W, Below w1.heap.size w1 W → W.cell? ⟨b, off + k, none⟩ = some ps[k].val) := Lib.hid fun W hb => by
        obtain ⟨b', off', _, e, hc', _⟩ := (HPS.out.below hb).at hltN
        injection e with e
        injection e with e1 e2
        subst e1 e2
        exact hc'
      generalize ps[k] = p at *
      obtain ⟨pA, pn, pc, pl⟩ := p
      simp only [Part.val] at hc hh HCB
      have hpl2 := Lib.hid hh.1
      have HHB := Lib.hid hh
      clear hh
      have hk0 : (0 : Int) ≤ (k : Int) := Int.natCast_nonneg _
      have hk1 : (k : Int) < (N : Int) := by omega
      have hk2 : (k : Int) < 10 := by omega
      have hxe := HX.out.en
      go_wp2_with fail
      refine (jend_jm HM.out).mono ?_
      rintro e w5 ⟨rfl, rfl⟩
      by_cases hlen : (pn : Int) ≤ 100
      · obtain ⟨g1, g2, g3, g4, g5, g6, g7⟩ := HCX.out.has_app HX.out (b := pl) (by rw [hpl2.out]; omega) (by rw [hpl2.out, hfr, hto]; omega)
        obtain ⟨-, -, -, -, -, -, g8⟩ := HCX.out.fits (b := pl) (by rw [hpl2.out]; omega) (by rw [hpl2.out, hfr, hto]; omega)
        have G1 := Lib.hid g1
        have G2 := Lib.hid g2
        have G3 := Lib.hid g3
        rw [hpl2.out] at g6
        have HSN := Lib.hid (stOf_snoc fs pl)
        have HZN := Lib.hid (szOf_snoc fs pl)
        have hs0 : (stOf fs).length ≤ 1000 := by rw [stOf_length]; omega
        have hz0 : (szOf fs).length ≤ 1000 := by rw [szOf_length]; omega
        have hxe' : Hid (((framesOf fs).length : Int) + 16 = (x.en : Int) + 16) := Lib.hid (by omega)
        have hplI : Hid ((pl.length : Int) = (pn : Int)) := Lib.hid (by rw [hpl2.out])
        clear g1 g2 g3 hxe
        go_wp2_with fail
        refine (append_jm HM.out HX.out.ok pA pn pc pl HHB.out (by omega) (by rw [HCX.out.buf]; decide)).mono ?_
        rintro e w6 ⟨rfl, h6, ho6⟩
        rw [G1.out]
        have H6 := Lib.hid h6
        have HNR6 := Lib.hid (HNR.out.others ho6)
        clear h6 ho6 HM HNR hc
        generalize x.app pl = y at *
        go_wp2_with (first
          | (at_builtin; refine wpList_num (w := w1) (wr := w6) rfl (.tmp 70) (.tmp 73) rfl rfl rfl rfl HNR6.out H6.out.b hs0 ?_; intro v' w7 hl' hb' hjm; have HL' := Lib.hid hl'; have H7 := Lib.hid (hjm (Nat.le_refl _) H6.out); have hc7 := HCB.out w7 H7.out.b; clear hl' hb' hjm)
          | (at_builtin; refine wpList_num (w := w1) (wr := w7) rfl (.tmp 75) (.tmp 81) rfl rfl rfl rfl HL'.out.swap H7.out.b hz0 ?_; intro v2' w8 hl' hb' hjm; have HL8 := Lib.hid hl'.swap; have H8 := Lib.hid (hjm (Nat.le_refl _) H7.out); clear hl' hb' hjm))
        go_roundw
        case rel =>
          refine ⟨k + 1, y, fs ++ [pl], by omega, by omega, by go_num, G2.out, G3.out, by omega, by omega, by omega, by omega, by simp; omega, ?_, ?_, H8.out⟩
          · intro c hc
            rcases List.mem_append.1 hc with hc | hc
            · exact HSH.out c hc
            · simp at hc
              subst hc
              rw [hpl2.out]
              omega
          · rw [HSN.out, HZN.out, hxe'.out, hplI.out]
            exact HL8.out
        case measure => simp [intOf]; omega
      · go_wp2_with fail
        go_roundw
        case rel => exact ⟨k + 1, x, fs, by omega, by omega, by go_num, HCX.out, HX.out, by omega, by omega, by omega, by omega, by omega, HSH.out, HNR.out, HM.out⟩
        case measure => simp [intOf]; omega
    · have hnot : (¬ (k : Int) < (N : Int)) ∨ ((k : Int) < (N : Int) ∧ ¬ (k : Int) < 10) := by omega
      clear hlt
      have hsl := stOf_length fs
      have hzl := szOf_length fs
      by_cases hf0 : fs.length = 0
      · obtain ⟨A1, c1, e1⟩ := HNR.out.form
        rw [hsl, hf0] at e1
        subst e1
        rcases hnot with hnot | ⟨hnot1, hnot2⟩
        all_goals
          go_wp2_with fail
          go_ret
          exact ⟨rfl, HBW.out.trans (HM.out.b.mono HBW.out.size)⟩
      obtain ⟨k2, hk2⟩ : ∃ k2, k2 = m1 % fs.length := ⟨_, rfl⟩
      have hk2l : k2 < fs.length := by rw [hk2]; exact Nat.mod_lt _ (by omega)
      have hk2i : (m1 : Int) % (fs.length : Int) = (k2 : Int) := by rw [hk2]; exact (Int.natCast_emod _ _).symm
      obtain ⟨Q1, c1, e1, cell1⟩ := HNR.out.get (k := k2) (by omega)
      obtain ⟨Q2, c2, e2, cell2⟩ := HNR.out.swap.get (k := k2) (by omega)
      rw [hsl] at e1
      rw [hzl] at e2
      subst e1 e2
      have eS : (stOf fs)[k2]'(by omega) = ((framesOf (fs.take k2)).length : Int) + 16 := by
        have := stOf_get fs k2 hk2l
        rw [List.getElem?_eq_getElem (by omega)] at this
        injection this
      have eZ : (szOf fs)[k2]'(by omega) = (fs[k2].length : Int) := by
        have := szOf_get fs k2 hk2l
        rw [List.getElem?_eq_getElem (by omega)] at this
        injection this
      rw [eS] at cell1
      rw [eZ] at cell2
      have hpi := place_in fs k2 hk2l
      have hxe := HX.out.en
      obtain ⟨S, hS⟩ : ∃ S, S = (framesOf (fs.take k2)).length + 16 := ⟨_, rfl⟩
      obtain ⟨z, hz⟩ : ∃ z, z = fs[k2].length := ⟨_, rfl⟩
      have hSi : ((framesOf (fs.take k2)).length : Int) + 16 = (S : Int) := by omega
      have hzi : ((fs[k2].length : Nat) : Int) = (z : Int) := by omega
      rw [hSi] at cell1
      rw [hzi] at cell2
      have hz100 : z ≤ 100 := by rw [hz]; exact HSH.out _ (List.getElem_mem hk2l)
      have hfn : ¬ (fs.length : Int) = 0 := by omega
      have hi2 : (0 : Int) ≤ (m1 : Int) % (fs.length : Int) := by omega
      have hi3 : ((m1 : Int) % (fs.length : Int)).toNat = k2 := by omega
      have hi4 : (m1 : Int) % (fs.length : Int) < (fs.length : Int) := by omega
      have HK2 := Lib.hid hk2l
      have HC12 : Hid (∀ W, NR2 w1 W (.slice (some ⟨Q1, 0, none⟩) fs.length c1) (.slice (some ⟨Q2, 0, none⟩) fs.length c2) (stOf fs) (szOf fs) → W.cell? ⟨Q1, k2, none⟩ = some (.int .i64 (S : Int)) ∧ W.cell? ⟨Q2, k2, none⟩ = some (.int .i64 (z : Int))) := Lib.hid fun W h => by
        have q1 := h.cell (k := k2) (by omega)
        have q2 := h.swap.cell (k := k2) (by omega)
        rw [eS, hSi] at q1
        rw [eZ, hzi] at q2
        exact ⟨q1, q2⟩
      have HT0 := Lib.hid (turned_zero HCX.out HX.out hfr hdl hk2l)
      have HPI := Lib.hid hpi
      have HXE := Lib.hid hxe
      have HS := Lib.hid hS
      have HZ := Lib.hid hz
      have HEN := Lib.hid hen
      clear hk2 hk2i hpi hxe hS hSi hzi hz hen hsl hzl eS eZ
      rcases hnot with hnot | ⟨hnot1, hnot2⟩
      all_goals
        by_cases hneg : a2 < 0
        · go_wp2_with fail
          go_ret
          exact ⟨rfl, HBW.out.trans (HM.out.b.mono HBW.out.size)⟩
        obtain ⟨q, rfl⟩ : ∃ q : Nat, a2 = (q : Int) := ⟨a2.toNat, by omega⟩
        by_cases hge : (z : Int) ≤ (q : Int)
        · go_wp2_with fail
          go_ret
          exact ⟨rfl, HBW.out.trans (HM.out.b.mono HBW.out.size)⟩
        have hqz : q < z := by omega
        go_wp2_with fail
        go_loopw [18, 19] (fun tu i wr => SpT w1 j g fs k2 (fs[k2]'HK2.out) q x.en x.cn [y0, y1, y2, y3] (.slice (some ⟨Q1, 0, none⟩) fs.length c1) (.slice (some ⟨Q2, 0, none⟩) fs.length c2) tu i wr) (fun _ i _ => 4 - (intOf i).toNat)
        case atStart =>
          refine ⟨0, x.d, by omega, by rw [← HZ.out]; omega, rfl, rfl, ?_, ?_, HNR.out⟩
          · rw [List.take_zero, mixed_nil]
            exact HT0.out
          · have := HM.out
            obtain ⟨xd, xf, xt, xe, xc⟩ := x
            subst hfr hto
            exact this
        case round =>
          obtain ⟨m, d, hm4, hqm, rfl, rfl, hT, hMd, hnr⟩ := hrel
          have HT := Lib.hid hT
          have HMD := Lib.hid hMd
          have HND := Lib.hid hnr
          clear hT hMd hnr
          obtain ⟨d1, d2⟩ := HC12.out wr HND.out
          have hqmz : q + m ≤ z := by rw [HZ.out]; exact hqm
          clear hqm
          by_cases hgo : m < 4 ∧ q + m < z
          · obtain ⟨hgo4, hgoz⟩ := hgo
            have hmb : m < [y0, y1, y2, y3].length := by rw [hbl.out]; exact hgo4
            obtain ⟨p, hp⟩ : ∃ p, p = S + q + m := ⟨_, rfl⟩
            obtain ⟨X, r1, r2, r3, r4, r5, r6⟩ := spoilt_round (S := S) (p := p) HK2.out HS.out HPI.out HXE.out (by have := HEN.out; omega) HT.out hmb (by rw [← HZ.out]; exact hgoz) hp
            have R1 := Lib.hid r1
            have R2 := Lib.hid r2
            have R3 := Lib.hid r3
            have R4 := Lib.hid r4
            have R6 := Lib.hid r6
            have hSb : S + z ≤ 2000 := by have := HS.out; have := HPI.out; have := HXE.out; have := HEN.out; have := HZ.out; omega
            have hdv : ((S : Int) + (q : Int) + (m : Int)) / 64 = ((p / 64 : Nat) : Int) := by omega
            have HDV := Lib.hid hdv
            have hj1 : (0 : Int) ≤ ((S : Int) + (q : Int) + (m : Int)) % 64 := by omega
            have hj2 : (((S : Int) + (q : Int) + (m : Int)) % 64).toNat = p % 64 := by omega
            have hj3 : ((S : Int) + (q : Int) + (m : Int)) % 64 < 64 := by omega
            have hj4 : (0 : Int) ≤ (m : Int) := by omega
            have hj5 : (m : Int) < 4 := by omega
            have hj6 : (m : Int) < (z : Int) - (q : Int) := by omega
            have hbx := HBX.out wr HMD.out.b m hmb
            have HPB : Hid (p % 64 < 64) := Lib.hid (by omega)
            clear r1 r2 r3 r4 r6 hdv hp HT
            obtain ⟨Y, hY⟩ : ∃ Y, Y = [y0, y1, y2, y3][m] := ⟨_, rfl⟩
            rw [← hY] at hbx R6
            have HAZ := Lib.hid (allz_snoc [y0, y1, y2, y3] m hmb)
            rw [← hY] at HAZ
            have HBY : Hid (∀ W, Below w1.heap.size w1 W → W.cell? ⟨w.heap.size, m, none⟩ = some (.int .u8 (Y.toNat : Int))) := Lib.hid fun W hb => by rw [hY]; exact HBX.out W hb m hmb
            have hzero : (Y == 0) = ((Y.toNat : Int) == 0) := by
              rw [Bool.eq_iff_iff, beq_iff_eq, beq_iff_eq, ← UInt8.toNat_inj]
              simp
            have HE := Lib.hid hzero
            clear hY hzero
            go_wp2_with fail
            rw [HDV.out]
            refine (read_ok (s := d) HMD.out.1 _ (by omega) R1.out).mono ?_
            rintro e w5 ⟨kb, rfl, hkb, hk5, hb5⟩
            rw [Int.toNat_natCast] at hk5
            obtain ⟨sg1, sg2⟩ := sector_get hk5 (p % 64) R3.out
            have hbx5 := cell_later hb5 hbx
            have HK5 := Lib.hid hk5
            have HB5 := Lib.hid hb5
            have hxor := u8_xor_nat X.toNat Y.toNat (UInt8.toNat_lt _) (UInt8.toNat_lt _)
            clear hk5 hb5
            have hpl0 : (0 : Int) ≤ (S : Int) + (q : Int) + (m : Int) := by omega
            have HMOD : Hid (((S : Int) + (q : Int) + (m : Int)) % 64 = ((p % 64 : Nat) : Int)) := Lib.hid (by omega)
            obtain ⟨r, hr⟩ : ∃ r, r = p % 64 := ⟨_, rfl⟩
            rw [← hr] at HMOD sg1 sg2 HPB R6
            have hr64 : r < 64 := HPB.out
            have hr64i : (r : Int) < 64 := by omega
            have HMT : Hid (((S : Int) + (q : Int) + (m : Int)).tmod 64 = (r : Int)) := Lib.hid (by rw [Int.tmod_eq_emod_of_nonneg hpl0]; exact HMOD.out)
            have HR := Lib.hid hr
            have hbw : Below wr.heap.size wr (w5.drew.setCell ⟨kb, r, none⟩ (.int .u8 ((X.toNat ^^^ Y.toNat : Nat) : Int))) := HB5.out.drew.setCell (p := ⟨kb, r, none⟩) hkb _
            have hho : Hold (w5.drew.setCell ⟨kb, r, none⟩ (.int .u8 ((X.toNat ^^^ Y.toNat : Nat) : Int))) (some ⟨kb, 0, none⟩) 64 64 ((d.told (p / 64)).set r (X ^^^ Y)) := by
              have := sector_set (W := w5.drew) HK5.out R4.out r (X ^^^ Y)
              rw [UInt8.toNat_xor] at this
              exact this
            have H6 := Lib.hid (HMD.out.below hbw)
            have HN6 := Lib.hid (HND.out.below hbw)
            have HHO := Lib.hid hho
            have S1 : Hid (w5.drew.cell? ⟨kb, r, none⟩ = some (.int .u8 (X.toNat : Int))) := Lib.hid sg1
            have S2 : Hid (w5.drew.frozen? ⟨kb, r, none⟩ = false) := Lib.hid sg2
            have S3 : Hid (w5.drew.cell? ⟨w.heap.size, m, none⟩ = some (.int .u8 (Y.toNat : Int))) := Lib.hid hbx5
            clear hbw hho sg1 sg2 HK5 HB5 hbx5 HMD HND hr hj1 hj2 hj3 hj6
            go_wp2_with fail
            refine wp_region_stepsA (stF kb r w.heap.size m ((S : Int) + (q : Int) + (m : Int)) X.toNat Y.toNat) (stJ w5.drew (w5.drew.setCell ⟨kb, r, none⟩ (.int .u8 ((X.toNat ^^^ Y.toNat : Nat) : Int)))) (by kernel_rfl) (by kernel_rfl) rfl ?_ ?_
            · refine ⟨?_, ?_, ?_, ?_, ?_, ?_, ?_, ?_, ?_, ?_, ?_, ?_, ?_, ?_, trivial⟩
              · intro a W ls hJ hi hcl hd hoff hf
                left
                refine ⟨rfl, ?_⟩
                have e0 : a.tmps.getD 21 undef = .slice (some ⟨kb, 0, none⟩) 64 64 := hoff.slot 21 (no_dst (by kernel_rfl))
                go_simp
                exact ⟨_, rfl, rfl, hJ.pure (by decide) _⟩
              · intro a W ls hJ hi hcl hd hoff hf
                left
                refine ⟨rfl, ?_⟩
                have e0 : a.tmps.getD 20 undef = .int .i64 ((S : Int) + (q : Int) + (m : Int)) := hoff.slot 20 (no_dst (by kernel_rfl))
                go_simp
                exact ⟨_, rfl, rfl, hJ.pure (by decide) _⟩
              · intro a W ls hJ hi hcl hd hoff hf
                left
                refine ⟨rfl, ?_⟩
                have e0 : a.tmps.getD 131 undef = .int .i64 ((S : Int) + (q : Int) + (m : Int)) := hf 1 _ (hd 1 rfl) rfl
                go_simp
                exact ⟨_, rfl, by rw [HMT.out]; rfl, hJ.pure (by decide) _⟩
              · intro a W ls hJ hi hcl hd hoff hf
                left
                refine ⟨rfl, ?_⟩
                have e0 : a.tmps.getD 21 undef = .slice (some ⟨kb, 0, none⟩) 64 64 := hoff.slot 21 (no_dst (by kernel_rfl))
                go_simp
                exact ⟨_, rfl, rfl, hJ.pure (by decide) _⟩
              · intro a W ls hJ hi hcl hd hoff hf
                left
                refine ⟨rfl, ?_⟩
                have e0 : a.tmps.getD 20 undef = .int .i64 ((S : Int) + (q : Int) + (m : Int)) := hoff.slot 20 (no_dst (by kernel_rfl))
                go_simp
                exact ⟨_, rfl, rfl, hJ.pure (by decide) _⟩
              · intro a W ls hJ hi hcl hd hoff hf
                left
                refine ⟨rfl, ?_⟩
                have e0 : a.tmps.getD 134 undef = .int .i64 ((S : Int) + (q : Int) + (m : Int)) := hf 4 _ (hd 4 rfl) rfl
                go_simp
                exact ⟨_, rfl, by rw [HMT.out]; rfl, hJ.pure (by decide) _⟩
              · intro a W ls hJ hi hcl hd hoff hf
                left
                refine ⟨rfl, ?_⟩
                have e0 : a.tmps.getD 133 undef = .slice (some ⟨kb, 0, none⟩) 64 64 := hf 3 _ (hd 3 rfl) rfl
                have e1 : a.tmps.getD 135 undef = .int .i64 (r : Int) := hf 5 _ (hd 5 rfl) rfl
                go_simp
                exact ⟨_, rfl, rfl, hJ.pure (by decide) _⟩
              · intro a W ls hJ hi hcl hd hoff hf
                left
                refine ⟨rfl, ?_⟩
                have e0 : a.tmps.getD 136 undef = .pointer (some ⟨kb, r, none⟩) := hf 6 _ (hd 6 rfl) rfl
                have h13 : ls 13 = false := hcl.no hi rfl rfl
                obtain rfl := hJ.is h13
                have cl := S1.out
                go_simp
                exact ⟨_, rfl, rfl, hJ.pure (by decide) _⟩
              · intro a W ls hJ hi hcl hd hoff hf
                left
                refine ⟨rfl, ?_⟩
                have e0 : a.tmps.getD 19 undef = .int .i64 (m : Int) := hoff.slot 19 (no_dst (by kernel_rfl))
                go_simp
                exact ⟨_, rfl, rfl, hJ.pure (by decide) _⟩
              · intro a W ls hJ hi hcl hd hoff hf
                left
                refine ⟨rfl, ?_⟩
                have e0 : a.tmps.getD 7 undef = .pointer (some ⟨w.heap.size, 0, none⟩) := hoff.slot 7 (no_dst (by kernel_rfl))
                have e1 : a.tmps.getD 138 undef = .int .i64 (m : Int) := hf 8 _ (hd 8 rfl) rfl
                go_simp
                exact ⟨_, rfl, rfl, hJ.pure (by decide) _⟩
              · intro a W ls hJ hi hcl hd hoff hf
                left
                refine ⟨rfl, ?_⟩
                have e0 : a.tmps.getD 139 undef = .pointer (some ⟨w.heap.size, m, none⟩) := hf 9 _ (hd 9 rfl) rfl
                have h13 : ls 13 = false := hcl.no hi rfl rfl
                obtain rfl := hJ.is h13
                have cl := S3.out
                go_simp
                exact ⟨_, rfl, rfl, hJ.pure (by decide) _⟩
              · intro a W ls hJ hi hcl hd hoff hf
                left
                refine ⟨rfl, ?_⟩
                have e0 : a.tmps.getD 137 undef = .int .u8 (X.toNat : Int) := hf 7 _ (hd 7 rfl) rfl
                have e1 : a.tmps.getD 140 undef = .int .u8 (Y.toNat : Int) := hf 10 _ (hd 10 rfl) rfl
                go_simp
                exact ⟨_, rfl, rfl, hJ.pure (by decide) _⟩
              · intro a W ls hJ hi hcl hd hoff hf
                left
                refine ⟨rfl, ?_⟩
                have e0 : a.tmps.getD 130 undef = .slice (some ⟨kb, 0, none⟩) 64 64 := hf 0 _ (hd 0 rfl) rfl
                have e1 : a.tmps.getD 132 undef = .int .i64 (r : Int) := hf 2 _ (hd 2 rfl) rfl
                go_simp
                exact ⟨_, rfl, rfl, hJ.pure (by decide) _⟩
              · intro a W ls hJ hi hcl hd hoff hf
                left
                refine ⟨rfl, ?_⟩
                have e0 : a.tmps.getD 142 undef = .pointer (some ⟨kb, r, none⟩) := hf 12 _ (hd 12 rfl) rfl
                have e1 : a.tmps.getD 141 undef = .int .u8 ((X.toNat ^^^ Y.toNat : Nat) : Int) := hf 11 _ (hd 11 rfl) rfl
                obtain rfl := hJ.is hi
                have cl := S1.out
                have fz := S2.out
                go_simp
                exact ⟨undef, rfl, trivial, stJ.put _⟩
            · intro a W ls hall hJ hoff hf
              obtain rfl := hJ.done (hall 13 (by decide))
              obtain ⟨ys, hys, ha⟩ := off_form hoff (mask := [false, false, false, false, false, false, false, false, false, false, false, false, false, false, false, false, false, false, false, false, false, false, false, false, false, false, false, false, false, false, false, false, false, false, false, false, false, false, false, false, false, false, false, false, false, false, false, false, false, false, false, false, false, false, false, false, false, false, false, false, false, false, false, false, false, false, false, false, false, false, false, false, false, false, false, false, false, false, false, false, false, false, false, false, false, false, false, false, false, false, false, false, false, false, false, false, false, false, false, false, false, false, false, false, false, false, false, false, false, false, false, false, false, false, false, false, false, false, false, false, false, false, false, false, false, false, false, false, false, false, true, true, true, true, true, true, true, true, true, true, true, true, true, false, false, false, false, false, false, false, false, false, false, false, false, false, false, false, false, false, false, false, false, false, false, false, false, false, false, false, false, false, false, false, false, false, false, false, false, false, false, false]) (by kernel_rfl)
              rename_i hK
              subst ha
              refine hK _ _ ?_
              clear hf hoff hys hJ hall S1 S2 S3
              generalize w5.drew.setCell ⟨kb, r, none⟩ (.int .u8 ((X.toNat ^^^ Y.toNat : Nat) : Int)) = w6 at *
              simp only [fillFrom, Nat.zero_add, Nat.reduceAdd]
              go_wp2_with fail
              rw [HDV.out]
              refine (write_jm H6.out _ _ 64 64 _ HHO.out (by omega) (by show (d.buf.length + 1) * 72 ≤ _; omega)).mono ?_
              rintro e w7 ⟨rfl, h7, ho7⟩
              have H7 := Lib.hid h7
              have HN7 := Lib.hid (HN6.out.others ho7)
              have hbx7 := HBY.out w7 h7.b
              clear h7 ho7 H6 HN6 HHO
              generalize allz ([y0, y1, y2, y3].take m) = A at *
              cases A
              · go_wp2_with fail
                go_roundw
                case rel => exact ⟨m + 1, _, by omega, by rw [← HZ.out]; omega, by go_num, by rw [HAZ.out]; rfl, R6.out, H7.out, HN7.out⟩
                case measure => simp [intOf]; omega
              · by_cases hy : Y.toNat = 0
                · have hy1 : ((Y.toNat : Int) == 0) = true := by simp [hy]
                  go_wp2_with fail
                  go_roundw
                  case rel => exact ⟨m + 1, _, by omega, by rw [← HZ.out]; omega, by go_num, by rw [HAZ.out, HE.out, hy1]; rfl, R6.out, H7.out, HN7.out⟩
                  case measure => simp [intOf]; omega
                · have hy1 : ((Y.toNat : Int) == 0) = false := by simp [hy]
                  have HY1 := Lib.hid hy1
                  go_wp2_with fail
                  go_roundw
                  case rel => exact ⟨m + 1, _, by omega, by rw [← HZ.out]; omega, by go_num, by rw [HAZ.out, HE.out]; show Value.bool (!((Y.toNat : Int) == 0)) = _; rw [HY1.out]; rfl, R6.out, H7.out, HN7.out⟩
                  case measure => simp [intOf]; omega
          · have hno : (¬ (m : Int) < 4) ∨ ((m : Int) < 4 ∧ ¬ (m : Int) < (z : Int) - (q : Int)) := by omega
            have htl : ([y0, y1, y2, y3].take m).length = m := by rw [List.length_take, hbl.out]; omega
            have hse := spoilt_err (bs := [y0, y1, y2, y3].take m) HK2.out (by rw [htl]; exact hm4) (by rw [htl, ← HZ.out]; exact hqmz) (fun b hb => Nat.le_trans (HSH.out b hb) (by decide)) (by have := HEN.out; omega) HT.out
            have HSE := Lib.hid hse
            have hcn := HX.out.cn
            have hbd : d.buf.length ≤ 4611686018427387904 := by have := HT.out.buf; omega
            have HOP := Lib.hid (open_mine (s := d) HMD.out.1 ((0 : Nat) : Int) ((100 : Nat) : Int) (x.en : Int) (fs.length : Int) (by omega) (by omega) hbd)
            have HCN : Hid ((x.cn : Int) = (fs.length : Int)) := Lib.hid (by omega)
            clear hse htl hcn hgo HT
            generalize allz ([y0, y1, y2, y3].take m) = A at *
            rcases hno with hno | ⟨hno1, hno2⟩
            all_goals
              go_wp2_with fail
              refine (jend_jm HMD.out).mono ?_
              rintro e w5 ⟨rfl, rfl⟩
              go_wp2_with fail
              refine (jcount_jm HMD.out).mono ?_
              rintro e w5 ⟨rfl, rfl⟩
              dsimp only
              rw [HCN.out]
              go_wp2_with fail
              refine HOP.out.mono ?_
              intro e w6 hp
              cases A
              · have h52 := HSE.out.2 rfl
                obtain ⟨rfl, hb6⟩ := hp.2 (by rw [h52]; decide)
                rw [h52]
                have HB6 := Lib.hid (HMD.out.b.trans (hb6.mono HMD.out.b.size))
                clear hp hb6
                go_wp2_with fail
                go_ret
                exact ⟨rfl, HBW.out.trans (HB6.out.mono HBW.out.size)⟩
              · obtain ⟨h0, hfl2⟩ := HSE.out.1 rfl
                obtain ⟨j6, B6, C6, rfl, -, -, -, hb6⟩ := hp.1 h0
                rw [hfl2]
                have HB6 := Lib.hid (HMD.out.b.trans (hb6.mono HMD.out.b.size))
                clear hp hb6
                go_wp2_with fail
                go_ret
                exact ⟨rfl, HBW.out.trans (HB6.out.mono HBW.out.size)⟩
end Go.Proofs.Ytkghjgpeobacjaa
