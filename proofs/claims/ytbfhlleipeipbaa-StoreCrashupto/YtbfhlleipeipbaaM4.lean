/-
  What is proved: the texts Cm, Cn, Iv, Un, Ud, Fo, Aw in one: what each proves stands ahead of it. Conditions: those in each statement.
-/
import Derived.Test.YtbfhlleipeipbaaM3
/- What is proved: the contract of store's commit: what is answered, and what the store then has. Conditions: those in each statement. -/
namespace Go.Proofs.Ytbfhlleipeipbaa
open Go.RowKit

/-- what is of other types than a store's blocks is as it was -/
def OthersS (w w' : World) : Prop := w.heap.size ≤ w'.heap.size ∧ ∀ (b : Nat) (C : Array Value) (t : TypeId) (fr : Nat × Nat), w.heap[b]? = some (.cells C t fr) → t ≠ 61 → t ≠ 88 → t ≠ 90 → t ≠ 76 → t ≠ 101 → t ≠ 82 → w'.heap[b]? = some (.cells C t fr)
theorem OthersC.s {w w' : World} (h : OthersC w w') : OthersS w w' := ⟨h.1, fun b C t fr hb h1 h2 h3 _ h5 _ => h.2 b C t fr hb h1 h2 h3 h5⟩
theorem Others.s {w w' : World} (h : Others w w') : OthersS w w' := ⟨h.1, fun b C t fr hb h1 h2 h3 h4 _ _ => h.2 b C t fr hb h1 h2 h3 h4⟩
theorem OthersS.refl (w : World) : OthersS w w := ⟨Nat.le_refl _, fun _ _ _ _ h _ _ _ _ _ _ => h⟩
theorem OthersS.trans {a b c : World} (h : OthersS a b) (k : OthersS b c) : OthersS a c := ⟨Nat.le_trans h.1 k.1, fun x C t fr hx h1 h2 h3 h4 h5 h6 => k.2 x C t fr (h.2 x C t fr hx h1 h2 h3 h4 h5 h6) h1 h2 h3 h4 h5 h6⟩
theorem own_othersC {W W' : World} {B n : Nat} {v : Value} {xs : List Value} (h : W.ownsRow B 52 3 v n xs) (ho : OthersC W W') : W'.ownsRow B 52 3 v n xs := by
  refine ⟨h.1, ?_⟩
  rcases h.2 with h0 | ⟨q, cap, cur, hv, hb, hg, r⟩
  · exact .inl h0
  · exact .inr ⟨q, cap, cur, hv, hb, ho.2 q cur 52 (0, 0) hg (by decide) (by decide) (by decide) (by decide), r⟩
theorem own_othersO {W W' : World} {B n : Nat} {v : Value} {xs : List Value} (h : W.ownsRow B 52 3 v n xs) (ho : Others W W') : W'.ownsRow B 52 3 v n xs := by
  refine ⟨h.1, ?_⟩
  rcases h.2 with h0 | ⟨q, cap, cur, hv, hb, hg, r⟩
  · exact .inl h0
  · exact .inr ⟨q, cap, cur, hv, hb, ho.2 q cur 52 (0, 0) hg (by decide) (by decide) (by decide) (by decide), r⟩
theorem own_othersS {W W' : World} {B n : Nat} {v : Value} {xs : List Value} (h : W.ownsRow B 52 3 v n xs) (ho : OthersS W W') : W'.ownsRow B 52 3 v n xs := by
  refine ⟨h.1, ?_⟩
  rcases h.2 with h0 | ⟨q, cap, cur, hv, hb, hg, r⟩
  · exact .inl h0
  · exact .inr ⟨q, cap, cur, hv, hb, ho.2 q cur 52 (0, 0) hg (by decide) (by decide) (by decide) (by decide) (by decide) (by decide), r⟩
theorem StB.othersC {w w' : World} {sb cb g n a : Nat} {e c : Int} {pv : Value} {st : Bool} (h : StB w sb cb g n a e c pv st) (ho : OthersC w w') : StB w' sb cb g n a e c pv st := ho.2 sb _ 82 (0, 0) h (by decide) (by decide) (by decide) (by decide)

/-! ### commit, as plain functions -/
def comL (d : D) (a en cn : Nat) (P l : List Cg) : JS := layJ d a en cn (batB l) (batB (allC P l))
def comA (d : D) (a en cn : Nat) (l : List Cg) : Nat := layA d a en cn (batB l)
def comE1 (d : D) (a en cn : Nat) (P l : List Cg) : Int := layE d a en cn (batB l) (batB (allC P l))
def comE (x : SS) (a en cn : Nat) (l : List Cg) : Int :=
  if comE1 x.d a en cn x.P l ≠ 0 then comE1 x.d a en cn x.P l
  else setErr (comL x.d a en cn x.P l).d x.h (comA x.d a en cn l) (comL x.d a en cn x.P l).en (comL x.d a en cn x.P l).cn
def comS (x : SS) (a en cn : Nat) (l : List Cg) : SS :=
  if comE1 x.d a en cn x.P l ≠ 0 then ⟨(comL x.d a en cn x.P l).d, x.h, x.P, x.st⟩
  else if comE x a en cn l ≠ 0 then ⟨setSt (comL x.d a en cn x.P l).d x.h (comA x.d a en cn l) (comL x.d a en cn x.P l).en (comL x.d a en cn x.P l).cn, x.h, x.P, x.st⟩
  else ⟨setSt (comL x.d a en cn x.P l).d x.h (comA x.d a en cn l) (comL x.d a en cn x.P l).en (comL x.d a en cn x.P l).cn, nextH x.h (comA x.d a en cn l) (comL x.d a en cn x.P l).en (comL x.d a en cn x.P l).cn, allC x.P l, x.st⟩
/-- what commit asks -/
structure CmOk (x : SS) (a en cn : Nat) (l : List Cg) : Prop where
  ha : x.h.a = (a : Int)
  he : x.h.e = (en : Int)
  hc : x.h.c = (cn : Int)
  a1 : a ≤ 1
  ht : 0 ≤ x.h.t
  jo : (areaJ x.d a en cn).Ok
  j2 : (areaJ x.d (1 - a) 0 0).Ok
  asc : Asc x.P
  bl : (batB l).length ≤ 549755813888
  lv : ∀ y ∈ l, y.key.size + y.val.size ≤ 274877906944
  pn : (x.P.length + l.length) * 40 ≤ 140737488355328
  pb : (chsB (allC x.P l)).length ≤ 1099511627776
  pv : ∀ y ∈ allC x.P l, y.key.size + y.val.size ≤ 1099511627776
  bf : x.d.buf.length ≤ 1099511627776
  bg : (comL x.d a en cn x.P l).d.buf.length ≤ 1099511627776
  sz : (comL x.d a en cn x.P l).d.last.length = x.d.last.length
  fr : (comL x.d a en cn x.P l).fr = frA x.d.last.length (comA x.d a en cn l)
  tt : (comL x.d a en cn x.P l).to = frA x.d.last.length (comA x.d a en cn l) + hlf x.d.last.length
theorem setSt_len (s : D) (h : H4) (a e c : Int) : (setSt s h a e c).last.length = s.last.length := by
  have hw : (s.wSt (placeOf (h.t + 1)) (secB (nextH h a e c))).last.length = s.last.length := by
    unfold D.wSt
    split
    · rfl
    · split <;> rfl
  have hf : ∀ t : D, t.fSt.last.length = t.last.length := fun t => by
    unfold D.fSt
    split
    · rfl
    · exact settle_length _ _
  unfold setSt
  split
  · rfl
  · split
    · exact hw
    · rw [hf, hw]
/-- the line of Set -/
def cmF (sb cb : Nat) (ar en cn er : Int) : Nat → Value → Prop
  | 0, v | 1, v => v = .pointer (some ⟨sb, 0, none⟩)
  | 2, v => v = .pointer (some ⟨sb, 1, none⟩)
  | 3, v => v = .pointer (some ⟨cb, 0, none⟩)
  | 4, v => v = .int .i64 ar
  | 5, v => v = .int .i64 en
  | 6, v => v = .int .i64 cn
  | 7, v => v = .agg #[.int .i64 ar, .int .i64 en, .int .i64 cn]
  | 8, v | 9, v => v = .int .i64 er
  | _, _ => True
def cmJ (w0 V : World) (cb g : Nat) (s : D) (h : H4) (ls : Nat → Bool) (W : World) : Prop :=
  if ls 8 = true then Mine w0 W g s ∧ Cl W cb g 0 h ∧ OthersC V W else W = V
theorem cmJ.no {w0 V W : World} {cb g : Nat} {s : D} {h : H4} {ls : Nat → Bool} (j : cmJ w0 V cb g s h ls W) (hl : ls 8 = false) : W = V := by unfold cmJ at j; rwa [hl, if_neg Bool.false_ne_true] at j
theorem cmJ.yes {w0 V W : World} {cb g : Nat} {s : D} {h : H4} {ls : Nat → Bool} (j : cmJ w0 V cb g s h ls W) (hl : ls 8 = true) : Mine w0 W g s ∧ Cl W cb g 0 h ∧ OthersC V W := by unfold cmJ at j; rwa [hl, if_pos rfl] at j
theorem cmJ.keep {w0 V W : World} {cb g : Nat} {s : D} {h : H4} {ls : Nat → Bool} {i : Nat} (j : cmJ w0 V cb g s h ls W) (hi : i ≠ 8) : cmJ w0 V cb g s h (updB ls i) W := by unfold cmJ at *; rwa [updB_other ls (Ne.symm hi)]
theorem cmJ.done {w0 V W : World} {cb g : Nat} {s : D} {h : H4} {ls : Nat → Bool} (k : Mine w0 W g s ∧ Cl W cb g 0 h ∧ OthersC V W) : cmJ w0 V cb g s h (updB ls 8) W := by unfold cmJ; rw [updB_at, if_pos rfl]; exact k
/-- the store is changed -/
theorem StB.put {w : World} {sb cb g n a : Nat} {e c : Int} {pv : Value} {st : Bool} (h : StB w sb cb g n a e c pv st) (a2 : Nat) (f t e2 c2 : Int) (pv2 : Value) (hf : f = (frA n a2 : Nat) * 64) (ht : t = ((frA n a2 : Nat) + (hlf n : Nat)) * 64) :
    StB ((((((w.setCell ⟨sb, 2, none⟩ (.pointer (some ⟨g, 0, none⟩))).setCell ⟨sb, 3, none⟩ (.int .i64 f)).setCell ⟨sb, 4, none⟩ (.int .i64 t)).setCell ⟨sb, 5, none⟩ (.int .i64 e2)).setCell ⟨sb, 6, none⟩ (.int .i64 c2)).setCell ⟨sb, 17, none⟩ pv2) sb cb g n a2 e2 c2 pv2 st := by
  subst hf ht
  unfold StB at *
  have h1 := heap_setCell_at h 2 (.pointer (some ⟨g, 0, none⟩))
  have h2 := heap_setCell_at h1 3 (.int .i64 ((frA n a2 : Nat) * 64))
  have h3 := heap_setCell_at h2 4 (.int .i64 (((frA n a2 : Nat) + (hlf n : Nat)) * 64))
  have h4 := heap_setCell_at h3 5 (.int .i64 e2)
  have h5 := heap_setCell_at h4 6 (.int .i64 c2)
  have h6 := heap_setCell_at h5 17 pv2
  rw [h6]
  rfl
theorem StB.putC {w : World} {sb g : Nat} (f t e2 c2 : Int) (pv2 : Value) :
    Chg (fun b => b = sb) w ((((((w.setCell ⟨sb, 2, none⟩ (.pointer (some ⟨g, 0, none⟩))).setCell ⟨sb, 3, none⟩ (.int .i64 f)).setCell ⟨sb, 4, none⟩ (.int .i64 t)).setCell ⟨sb, 5, none⟩ (.int .i64 e2)).setCell ⟨sb, 6, none⟩ (.int .i64 c2)).setCell ⟨sb, 17, none⟩ pv2) :=
  ((((((Chg.refl (fun b => b = sb) w).setCell (p := ⟨sb, 2, none⟩) (.inl rfl) _).setCell (p := ⟨sb, 3, none⟩) (.inl rfl) _).setCell (p := ⟨sb, 4, none⟩) (.inl rfl) _).setCell (p := ⟨sb, 5, none⟩) (.inl rfl) _).setCell (p := ⟨sb, 6, none⟩) (.inl rfl) _).setCell (p := ⟨sb, 17, none⟩) (.inl rfl) _
theorem OthersS.chg {w w' : World} {sb : Nat} {C0 : Array Value} {fr0 : Nat × Nat} (hc : w.heap[sb]? = some (.cells C0 82 fr0)) (h : Chg (fun b => b = sb) w w') : OthersS w w' :=
  ⟨h.size, fun b C t fr hb _ _ _ _ _ h6 => (h.block b (Array.getElem?_eq_some_iff.1 hb).1 (fun e => by subst e; rw [hb] at hc; injection hc with hc; injection hc with _ hc; exact h6 hc)).trans hb⟩
def ComPost (w0 w : World) (sb cb g : Nat) (x : SS) (er : Int) (e : Ending) (w' : World) : Prop := e = .returned (.int .i64 er) ∧ SMem w0 w' sb cb g x ∧ OthersS w w'
/-- where it was done the pairs lie in new memory -/
def ComNew (w w' : World) (sb : Nat) (P : List Cg) (er : Int) : Prop := er = 0 → ∃ A n c, w'.cell? ⟨sb, 17, none⟩ = some (.slice A n c) ∧ w'.ownsRow w.heap.size 52 3 (.slice A n c) n (chV P)
def ComPost2 (w0 w : World) (sb cb g : Nat) (x : SS) (er : Int) (e : Ending) (w' : World) : Prop := e = .returned (.int .i64 er) ∧ SMem w0 w' sb cb g x ∧ OthersS w w' ∧ ComNew w w' sb x.P er
theorem ComPost2.old {w0 w : World} {sb cb g : Nat} {x : SS} {er : Int} {e : Ending} {w' : World} (h : ComPost2 w0 w sb cb g x er e w') : ComPost w0 w sb cb g x er e w' := ⟨h.1, h.2.1, h.2.2.1⟩

set_option maxRecDepth 100000 in
set_option maxHeartbeats 4000000 in
theorem commit_new (w0 w : World) (sb cb g : Nat) (x : SS) (a en cn : Nat) (l : List Cg) (hx : SMem w0 w sb cb g x) (ok : CmOk x a en cn l) (A : Option Addr) (m c : Nat) (hb : Hold w A m c (batB l)) :
    Calls Try.prog 33 #[.pointer (some ⟨sb, 0, none⟩), .slice A m c] w (ComPost2 w0 w sb cb g (comS x a en cn l) (comE x a en cn l)) := by
  obtain ⟨hm, hcl, ⟨AP, nP, cP, hst, hP⟩, hlo1, hlo2⟩ := hx
  have hml := hb.1
  have hbl := ok.bl
  have hpl : x.P.length = nP := (own_hc hP).1.1
  have HCH := Lib.hid (changesOf_bat A m c l w hb (by omega) ok.lv)
  have HOK := Lib.hid ok
  have hst' : StB w sb cb g x.d.last.length a (en : Int) (cn : Int) (.slice AP nP cP) x.st := by
    have := hst
    rw [ok.ha, ok.he, ok.hc, Int.toNat_natCast] at this
    exact this
  have HHB := Lib.hid hb
  have HM := Lib.hid hm
  have HCL := Lib.hid hcl
  have HST := Lib.hid hst'
  have HP := Lib.hid hP
  have hw0 := hm.b.size
  have hpn := ok.pn
  clear hm hcl hst hP hb ok hst'
  go_enter Try.func33, Try.ntmps33
  go_wp2_with (go_at_call 47; refine HCH.out.mono ?_; rintro e1 w1 ⟨q, rfl, ho1, hb1⟩; have HO1 := Lib.hid ho1; have HB1 := Lib.hid hb1; have s17 := (HST.out.below hb1).cells.2.2.2.1.1; clear ho1 hb1 HCH)
  have HAF := Lib.hid (after_any AP nP cP x.P (some ⟨q, 0, none⟩) l.length l.length (l.map norm) w1 (own_hc (own_belowG HP.out HB1.out)).1 (own_hc HP.out).2 (own_hc HO1.out).1 HOK.out.asc (by omega))
  refine HAF.out.mono ?_
  rintro e2 w2 ⟨A2, n2, c2, rfl, ho2, hn2, hb2⟩
  rw [allC_norm] at ho2
  have HB2 := Lib.hid (HB1.out.trans (hb2.mono HB1.out.size))
  have HO2 := Lib.hid (own_mono ho2 HB1.out.size)
  clear ho2 hb2 HAF HO1 s17 HB1 hn2
  have hly := lay_any w0 w2 sb cb g x.d x.h a en cn (.slice AP nP cP) x.st (HM.out.below HB2.out) (HCL.out.below HB2.out) (HST.out.below HB2.out) HOK.out.ha HOK.out.he HOK.out.hc HOK.out.a1 HOK.out.jo HOK.out.j2 A m c (batB l) (HHB.out.below HB2.out) (by omega) A2 n2 c2 (allC x.P l) (HC52.of_own HO2.out) HOK.out.pb HOK.out.pv HOK.out.bf
  have HLY : Hid (Calls Try.prog 52 #[.pointer (some ⟨sb, 0, none⟩), .slice A m c, .slice A2 n2 c2] w2 (LayPost w0 w2 g (comA x.d a en cn l) (comL x.d a en cn x.P l) (comE1 x.d a en cn x.P l))) := Lib.hid hly
  clear hly
  obtain ⟨J, hJ⟩ : ∃ J, J = comL x.d a en cn x.P l := ⟨_, rfl⟩
  obtain ⟨ar, har⟩ : ∃ z, z = comA x.d a en cn l := ⟨_, rfl⟩
  obtain ⟨e1, he1⟩ : ∃ z, z = comE1 x.d a en cn x.P l := ⟨_, rfl⟩
  rw [← hJ, ← har, ← he1] at HLY
  have HJ := Lib.hid hJ
  have HAR := Lib.hid har
  have HE1 := Lib.hid he1
  have hfr : (J.fr : Int) * 64 = (frA x.d.last.length ar : Nat) * 64 := by rw [hJ, HOK.out.fr, ← har]
  have htt : (J.to : Int) * 64 = ((frA x.d.last.length ar : Nat) + (hlf x.d.last.length : Nat)) * 64 := by rw [hJ, HOK.out.tt, ← har, Int.natCast_add]
  have hbg : J.d.buf.length ≤ 1099511627776 := by rw [hJ]; exact HOK.out.bg
  have hsz : J.d.last.length = x.d.last.length := by rw [hJ]; exact HOK.out.sz
  obtain ⟨f, hf⟩ : ∃ z : Int, z = (J.fr : Int) * 64 := ⟨_, rfl⟩
  obtain ⟨t, ht⟩ : ∃ z : Int, z = (J.to : Int) * 64 := ⟨_, rfl⟩
  unfold LayPost at HLY
  rw [← hf, ← ht] at HLY
  have HFR := Lib.hid (And.intro (hf.trans hfr) (ht.trans htt))
  have HSZ := Lib.hid hsz
  clear hJ har he1 hfr htt hf ht hsz
  go_wp2_with fail
  refine HLY.out.mono ?_
  rintro e3 w3 ⟨rfl, hm3, ho3⟩
  have HM3 := Lib.hid hm3
  have HC3 := Lib.hid ((HCL.out.below HB2.out).others ho3)
  have HS3 := Lib.hid ((HST.out.below HB2.out).others ho3)
  have HP3 := Lib.hid (own_othersO (own_belowG HP.out HB2.out) ho3)
  have HO3 := Lib.hid (own_othersO HO2.out ho3)
  have HT3 := Lib.hid ((Others.below HB2.out).trans ho3)
  clear hm3 ho3 HLY HO2 HB2 HP HST HCL HM HHB
  unfold jcs
  by_cases hz1 : e1 = 0
  · have hal : Below w3.heap.size w3 (w3.alloc (.cells #[.pointer (some ⟨g, 0, none⟩), .int .i64 f, .int .i64 t, .int .i64 (J.en : Int), .int .i64 (J.cn : Int)] 76)) := (Below.refl _ _).alloc (Nat.le_refl _) _
    have hjn : Jn (w3.alloc (.cells #[.pointer (some ⟨g, 0, none⟩), .int .i64 f, .int .i64 t, .int .i64 (J.en : Int), .int .i64 (J.cn : Int)] 76)) w3.heap.size g f t (J.en : Int) (J.cn : Int) := heap_alloc_new w3 _
    have HM4 := Lib.hid (HM3.out.below hal)
    have HC4 := Lib.hid (HC3.out.below hal)
    have HS4 := Lib.hid (HS3.out.below hal)
    have HP4 := Lib.hid (own_belowG HP3.out hal)
    have HO4 := Lib.hid (own_belowG HO3.out hal)
    have HT4 := Lib.hid (HT3.out.trans (Others.below hal))
    have HJN := Lib.hid hjn
    have h30 : w0.heap.size ≤ w3.heap.size := HM3.out.b.size
    have HZ1 := Lib.hid hz1
    rw [hz1]
    clear hal hjn HM3 HC3 HS3 HP3 HO3 HT3 hz1
    go_wp2_with fail
    generalize w3.alloc (.cells #[.pointer (some ⟨g, 0, none⟩), .int .i64 f, .int .i64 t, .int .i64 (J.en : Int), .int .i64 (J.cn : Int)] 76) = w4 at *
    generalize w3.heap.size = jb at *
    obtain ⟨V, hV⟩ : ∃ V, V = w4.drew := ⟨_, rfl⟩
    have hbV : Below w4.heap.size w4 V := by rw [hV]; exact (Below.refl _ _).drew
    have HM5 := Lib.hid (HM4.out.below hbV)
    have HC5 := Lib.hid (HC4.out.below hbV)
    have HS5 := Lib.hid (HS4.out.below hbV)
    have HP5 := Lib.hid (own_belowG HP4.out hbV)
    have HO5 := Lib.hid (own_belowG HO4.out hbV)
    have HT5 := Lib.hid (HT4.out.trans (Others.below hbV))
    have HJ5 := Lib.hid (HJN.out.below hbV)
    have HV := Lib.hid hV
    clear hV hbV HM4 HC4 HS4 HP4 HO4 HT4 HJN
    refine wp_region_stepsA (cmF sb cb (ar : Int) (J.en : Int) (J.cn : Int) (setErr J.d x.h (ar : Int) (J.en : Int) (J.cn : Int))) (fun ls _ W => cmJ w0 V cb g (setSt J.d x.h (ar : Int) (J.en : Int) (J.cn : Int)) (setH J.d x.h (ar : Int) (J.en : Int) (J.cn : Int)) ls W) (by kernel_rfl) (by kernel_rfl) (by show w4.drew = V; exact HV.out.symm) ?_ ?_
    · refine ⟨?_, ?_, ?_, ?_, ?_, ?_, ?_, ?_, ?_, ?_, trivial⟩
      · intro y W ls hJJ hi hcl hd hoff hf
        left
        refine ⟨rfl, ?_⟩
        have e0 : y.tmps.getD 0 undef = .pointer (some ⟨sb, 0, none⟩) := hoff.slot 0 (no_dst (by kernel_rfl))
        go_simp
        exact ⟨_, rfl, rfl, hJJ.keep (i := 0) (by decide)⟩
      · intro y W ls hJJ hi hcl hd hoff hf
        left
        refine ⟨rfl, ?_⟩
        have e0 : y.tmps.getD 34 undef = .pointer (some ⟨sb, 0, none⟩) := hf 0 _ (hd 0 rfl) rfl
        go_simp
        exact ⟨_, rfl, rfl, hJJ.keep (i := 1) (by decide)⟩
      · intro y W ls hJJ hi hcl hd hoff hf
        left
        refine ⟨rfl, ?_⟩
        have e0 : y.tmps.getD 35 undef = .pointer (some ⟨sb, 0, none⟩) := hf 1 _ (hd 1 rfl) rfl
        go_simp
        exact ⟨_, rfl, rfl, hJJ.keep (i := 2) (by decide)⟩
      · intro y W ls hJJ hi hcl hd hoff hf
        left
        refine ⟨rfl, ?_⟩
        have e0 : y.tmps.getD 36 undef = .pointer (some ⟨sb, 1, none⟩) := hf 2 _ (hd 2 rfl) rfl
        have h8 : ls 8 = false := hcl.no hi rfl rfl
        obtain rfl := hJJ.no h8
        have s1 := HS5.out.cells.1.2.1
        go_simp
        exact ⟨_, rfl, rfl, hJJ.keep (i := 3) (by decide)⟩
      · intro y W ls hJJ hi hcl hd hoff hf
        left
        refine ⟨rfl, ?_⟩
        have e0 : y.tmps.getD 8 undef = .int .i64 (ar : Int) := hoff.slot 8 (no_dst (by kernel_rfl))
        go_simp
        exact ⟨_, rfl, rfl, hJJ.keep (i := 4) (by decide)⟩
      · intro y W ls hJJ hi hcl hd hoff hf
        left
        refine ⟨rfl, ?_⟩
        have e0 : y.tmps.getD 9 undef = .pointer (some ⟨jb, 0, none⟩) := hoff.slot 9 (no_dst (by kernel_rfl))
        have h7 : ls 7 = false := hcl.no hi rfl rfl
        have h8 : ls 8 = false := hcl.no h7 rfl rfl
        obtain rfl := hJJ.no h8
        go_simp
        refine (jend_any W jb g f t _ _ HJ5.out).mono ?_
        rintro en2 W2 ⟨rfl, rfl⟩
        exact ⟨_, rfl, rfl, hJJ.keep (i := 5) (by decide)⟩
      · intro y W ls hJJ hi hcl hd hoff hf
        left
        refine ⟨rfl, ?_⟩
        have e0 : y.tmps.getD 9 undef = .pointer (some ⟨jb, 0, none⟩) := hoff.slot 9 (no_dst (by kernel_rfl))
        have h7 : ls 7 = false := hcl.no hi rfl rfl
        have h8 : ls 8 = false := hcl.no h7 rfl rfl
        obtain rfl := hJJ.no h8
        go_simp
        refine (jcount_any W jb g f t _ _ HJ5.out).mono ?_
        rintro en2 W2 ⟨rfl, rfl⟩
        exact ⟨_, rfl, rfl, hJJ.keep (i := 6) (by decide)⟩
      · intro y W ls hJJ hi hcl hd hoff hf
        left
        refine ⟨rfl, ?_⟩
        have e0 : y.tmps.getD 38 undef = .int .i64 (ar : Int) := hf 4 _ (hd 4 rfl) rfl
        have e1 : y.tmps.getD 39 undef = .int .i64 (J.en : Int) := hf 5 _ (hd 5 rfl) rfl
        have e2 : y.tmps.getD 40 undef = .int .i64 (J.cn : Int) := hf 6 _ (hd 6 rfl) rfl
        rw [Array.getD_eq_getD_getElem?] at e0 e1 e2
        go_simp
        exact ⟨_, rfl, rfl, hJJ.keep (i := 7) (by decide)⟩
      · intro y W ls hJJ hi hcl hd hoff hf
        left
        refine ⟨rfl, ?_⟩
        have e0 : y.tmps.getD 37 undef = .pointer (some ⟨cb, 0, none⟩) := hf 3 _ (hd 3 rfl) rfl
        have e1 : y.tmps.getD 41 undef = .agg #[.int .i64 (ar : Int), .int .i64 (J.en : Int), .int .i64 (J.cn : Int)] := hf 7 _ (hd 7 rfl) rfl
        obtain rfl := hJJ.no hi
        go_simp
        refine (cset_any w0 W cb g J.d x.h (ar : Int) (J.en : Int) (J.cn : Int) HM5.out HC5.out hlo2 HOK.out.ht hbg).mono ?_
        rintro en2 W2 ⟨rfl, h1, h2, h3⟩
        exact ⟨_, rfl, rfl, cmJ.done ⟨h1, h2, h3⟩⟩
      · intro y W ls hJJ hi hcl hd hoff hf
        left
        refine ⟨rfl, ?_⟩
        have e0 : y.tmps.getD 42 undef = .int .i64 (setErr J.d x.h (ar : Int) (J.en : Int) (J.cn : Int)) := hf 8 _ (hd 8 rfl) rfl
        go_simp
        exact ⟨_, rfl, rfl, hJJ.keep (i := 9) (by decide)⟩
    · intro y W ls hl hJJ hoff hf
      have e11 : y.tmps.getD 11 undef = .int .i64 (setErr J.d x.h (ar : Int) (J.en : Int) (J.cn : Int)) := hf 9 _ rfl
      obtain ⟨hm6, hc6, ho6⟩ := hJJ.yes (hl 8 (by decide))
      obtain ⟨ys, hys, ha⟩ := off_form hoff (mask := [false, false, false, false, false, false, false, false, false, false, false, true, false, false, false, false, false, false, false, false, false, false, false, false, false, false, false, false, false, false, false, false, false, false, true, true, true, true, true, true, true, true, true, false, false, false, false, false, false, false, false, false, false, false]) (by kernel_rfl)
      rw [hys] at e11
      subst ha
      simp only [fillFrom, Nat.zero_add, Nat.reduceAdd] at *
      rw [e11]
      have HM6 := Lib.hid hm6
      have HC6 := Lib.hid hc6
      have HS6 := Lib.hid (HS5.out.othersC ho6)
      have HP6 := Lib.hid (own_othersC HP5.out ho6)
      have HO6 := Lib.hid (own_othersC HO5.out ho6)
      have HJ6 : Hid (Jn W jb g f t (J.en : Int) (J.cn : Int)) := Lib.hid (ho6.2 jb _ 76 (0, 0) HJ5.out (by decide) (by decide) (by decide) (by decide))
      have HT6 := Lib.hid (HT5.out.s.trans ho6.s)
      clear e11 hys hoff hf hl hJJ hm6 hc6 ho6 HM5 HC5 HS5 HP5 HO5 HT5
      rename_i hKK
      refine hKK _ _ ?_
      clear hKK
      by_cases hz2 : setErr J.d x.h (ar : Int) (J.en : Int) (J.cn : Int) = 0
      · have hcE : comE x a en cn l = 0 := by unfold comE; rw [← HE1.out, ← HJ.out, ← HAR.out, if_neg (fun h => h HZ1.out)]; exact hz2
        have hcS : comS x a en cn l = ⟨setSt J.d x.h (ar : Int) (J.en : Int) (J.cn : Int), nextH x.h (ar : Int) (J.en : Int) (J.cn : Int), allC x.P l, x.st⟩ := by unfold comS; rw [hcE, ← HE1.out, ← HJ.out, ← HAR.out, if_neg (fun h => h HZ1.out), if_neg (fun h => h rfl)]
        have hsH : setH J.d x.h (ar : Int) (J.en : Int) (J.cn : Int) = nextH x.h (ar : Int) (J.en : Int) (J.cn : Int) := by unfold setH; rw [if_pos hz2]
        have hc6 := HC6.out
        rw [hsH] at hc6
        have HC7 := Lib.hid hc6
        have HE := Lib.hid hcE
        have HSS := Lib.hid hcS
        rw [hz2]
        obtain ⟨j0, j1, j2, j3, j4, jf⟩ := jn_cells HJ6.out
        obtain ⟨⟨s0, s1, s2, s3, s4, s5, s6⟩, t1, t2, ⟨s17, s18⟩, sf⟩ := HS6.out.cells
        have sf2 := sf 2
        have sf3 := sf 3
        have sf4 := sf 4
        have sf5 := sf 5
        have sf6 := sf 6
        have sf17 := sf 17
        have hput := HS6.out.put ar f t (J.en : Int) (J.cn : Int) (.slice A2 n2 c2) HFR.out.1 HFR.out.2
        have hchg : Chg (fun b => b = sb) W _ := StB.putC (g := g) f t (J.en : Int) (J.cn : Int) (.slice A2 n2 c2)
        have HPUT := Lib.hid hput
        have HCHG := Lib.hid hchg
        clear hput hchg sf jf t1 t2 hc6 hcE hcS hsH hz2
        go_wp2_with fail
        go_ret
        have hos := OthersS.chg HS6.out HCHG.out
        refine ⟨by rw [HE.out]; rfl, ?_, HT6.out.trans hos, fun _ => ⟨A2, n2, c2, HPUT.out.cells.2.2.2.1.1, by rw [HSS.out]; exact own_othersS HO6.out hos⟩⟩
        rw [HSS.out]
        refine ⟨HM6.out.frame HCHG.out (fun b hb => by subst hb; exact hlo1) (fun b hb => by subst hb; exact ⟨_, _, _, HS6.out, by decide, by decide, by decide⟩), ?_, ⟨A2, n2, c2, ?_, own_mono (own_othersS HO6.out hos) hw0⟩, hlo1, hlo2⟩
        · have h101 : cb ≠ sb := tag_ne HC7.out HS6.out (by decide)
          exact (HCHG.out.block cb (Array.getElem?_eq_some_iff.1 HC7.out).1 h101).trans HC7.out
        · show StB _ sb cb g (setSt J.d x.h (ar : Int) (J.en : Int) (J.cn : Int)).last.length ((ar : Int)).toNat (J.en : Int) (J.cn : Int) _ x.st
          rw [setSt_len, HSZ.out, Int.toNat_natCast]
          exact HPUT.out
      · have hcE : comE x a en cn l = setErr J.d x.h (ar : Int) (J.en : Int) (J.cn : Int) := by unfold comE; rw [← HE1.out, ← HJ.out, ← HAR.out, if_neg (fun h => h HZ1.out)]
        have hcS : comS x a en cn l = ⟨setSt J.d x.h (ar : Int) (J.en : Int) (J.cn : Int), x.h, x.P, x.st⟩ := by unfold comS; rw [hcE, ← HE1.out, ← HJ.out, ← HAR.out, if_neg (fun h => h HZ1.out), if_pos hz2]
        have hsH : setH J.d x.h (ar : Int) (J.en : Int) (J.cn : Int) = x.h := by unfold setH; rw [if_neg hz2]
        have hc6 := HC6.out
        rw [hsH] at hc6
        have HC7 := Lib.hid hc6
        have HE := Lib.hid hcE
        have HSS := Lib.hid hcS
        clear hcE hcS hc6 hsH
        generalize setErr J.d x.h (ar : Int) (J.en : Int) (J.cn : Int) = er at *
        go_wp2_with fail
        go_ret
        refine ⟨by rw [HE.out]; rfl, ?_, HT6.out, fun h => absurd (HE.out.symm.trans h) hz2⟩
        rw [HSS.out]
        refine ⟨HM6.out, HC7.out, ⟨AP, nP, cP, ?_, HP6.out⟩, hlo1, hlo2⟩
        show StB _ sb cb g (setSt J.d x.h (ar : Int) (J.en : Int) (J.cn : Int)).last.length x.h.a.toNat x.h.e x.h.c _ x.st
        rw [setSt_len, HSZ.out, HOK.out.ha, HOK.out.he, HOK.out.hc, Int.toNat_natCast]
        exact HS6.out
  · have hcE : comE x a en cn l = e1 := by unfold comE; rw [← HE1.out, if_pos hz1]
    have hcS : comS x a en cn l = ⟨J.d, x.h, x.P, x.st⟩ := by unfold comS; rw [← HE1.out, if_pos hz1, ← HJ.out]
    have HE := Lib.hid hcE
    have HS := Lib.hid hcS
    clear hcE hcS
    go_wp2_with fail
    go_ret
    have hal : Below w3.heap.size w3 (w3.alloc (.cells #[.pointer (some ⟨g, 0, none⟩), .int .i64 f, .int .i64 t, .int .i64 (J.en : Int), .int .i64 (J.cn : Int)] 76)) := (Below.refl _ _).alloc (Nat.le_refl _) _
    refine ⟨by rw [HE.out]; rfl, ?_, (HT3.out.trans (Others.below hal)).s, fun h => absurd (HE.out.symm.trans h) hz1⟩
    rw [HS.out]
    refine ⟨HM3.out.below hal, HC3.out.below hal, ⟨AP, nP, cP, ?_, own_belowG HP3.out hal⟩, hlo1, hlo2⟩
    show StB _ sb cb g J.d.last.length x.h.a.toNat x.h.e x.h.c _ x.st
    rw [HSZ.out, HOK.out.ha, HOK.out.he, HOK.out.hc, Int.toNat_natCast]
    exact HS3.out.below hal
theorem commit_any (w0 w : World) (sb cb g : Nat) (x : SS) (a en cn : Nat) (l : List Cg) (hx : SMem w0 w sb cb g x) (ok : CmOk x a en cn l) (A : Option Addr) (m c : Nat) (hb : Hold w A m c (batB l)) :
    Calls Try.prog 33 #[.pointer (some ⟨sb, 0, none⟩), .slice A m c] w (ComPost w0 w sb cb g (comS x a en cn l) (comE x a en cn l)) :=
  (commit_new w0 w sb cb g x a en cn l hx ok A m c hb).mono fun _ _ h => h.old
end Go.Proofs.Ytbfhlleipeipbaa

/- What is proved: the contract of store's Commit. Conditions: those in each statement. -/
namespace Go.Proofs.Ytbfhlleipeipbaa
open Go.RowKit

/-- the store behind a Commit -/
def comX (x : SS) (a en cn : Nat) (l : List Cg) : SS := ⟨(comS x a en cn l).d, (comS x a en cn l).h, (comS x a en cn l).P, if comE x a en cn l = 32 then true else (comS x a en cn l).st⟩
theorem StB.stale {w : World} {sb cb g n a : Nat} {e c : Int} {pv : Value} {st : Bool} (h : StB w sb cb g n a e c pv st) : StB (w.setCell ⟨sb, 18, none⟩ (.bool true)) sb cb g n a e c pv true := by
  unfold StB at *
  rw [heap_setCell_at h 18 (.bool true)]
  rfl

set_option maxRecDepth 100000 in
set_option maxHeartbeats 2000000 in
theorem Commit_new (w0 w : World) (sb cb g : Nat) (x : SS) (a en cn : Nat) (l : List Cg) (hx : SMem w0 w sb cb g x) (ok : CmOk x a en cn l) (hst : x.st = false) (A : Option Addr) (n c : Nat) (hl : HC w A n c l) :
    Calls Try.prog 13 #[.pointer (some ⟨sb, 0, none⟩), .slice A n c] w (ComPost2 w0 w sb cb g (comX x a en cn l) (comE x a en cn l)) := by
  have hcb : (chsB l).length ≤ 549755813888 := by have := ok.bl; rw [batB_length] at this; omega
  have HBO := Lib.hid (bytesOf_any A n c l w hl (by omega) (fun y hy => Nat.le_trans (ok.lv y hy) (by omega)))
  obtain ⟨AP, nP, cP, hs, _⟩ := hx.ex
  have s18 := hs.cells.2.2.2.1.2
  rw [hst] at s18
  have HX := Lib.hid hx
  have HOK := Lib.hid ok
  have hw0 := hx.m.b.size
  have hbw : ∀ w' : World, Below w.heap.size w w' → SMem w0 w' sb cb g x := fun w' hb => ⟨hx.m.below hb, hx.cl.below hb, by
    obtain ⟨A1, n1, c1, h1, h2⟩ := hx.ex
    exact ⟨A1, n1, c1, h1.below hb, own_belowG h2 hb⟩, hx.lo⟩
  have HBW := Lib.hid hbw
  clear hbw hs hx hl hst ok hcb
  go_enter Try.func13, Try.ntmps13
  go_wp2_with fail
  refine HBO.out.mono ?_
  rintro e1 w1 ⟨A1, n1, c1, rfl, ho1, hb1⟩
  have HCM := Lib.hid (commit_new w0 w1 sb cb g x a en cn l (HBW.out w1 hb1) HOK.out A1 n1 c1 (Hold.of_own ho1))
  have HB1 := Lib.hid hb1
  clear ho1 hb1 HBO s18
  obtain ⟨er, her⟩ : ∃ z, z = comE x a en cn l := ⟨_, rfl⟩
  rw [← her] at HCM ⊢
  have HER := Lib.hid her
  clear her
  by_cases h32 : er = 32
  · subst h32
    have hcx : comX x a en cn l = ⟨(comS x a en cn l).d, (comS x a en cn l).h, (comS x a en cn l).P, true⟩ := by unfold comX; rw [← HER.out, if_pos rfl]
    have HCX := Lib.hid hcx
    clear hcx
    go_wp2_with (go_at_call 33; refine HCM.out.mono ?_; rintro e2 w2 ⟨rfl, hx2, ho2, _⟩; obtain ⟨A4, n4, c4, hs4, hp4⟩ := hx2.ex; have s18 := hs4.cells.2.2.2.1.2; have sf18 := hs4.cells.2.2.2.2 18; have HX2 := Lib.hid hx2; have HS4 := Lib.hid hs4; have HP4 := Lib.hid hp4; have HO2 := Lib.hid ((Others.below HB1.out).s.trans ho2); clear hx2 ho2 HCM hs4 hp4)
    go_ret
    have hch : Chg (fun b => b = sb) w2 (w2.setCell ⟨sb, 18, none⟩ (.bool true)) := (Chg.refl (fun b => b = sb) w2).setCell (p := ⟨sb, 18, none⟩) (.inl rfl) _
    have hos := OthersS.chg HS4.out hch
    refine ⟨by rw [← HER.out]; rfl, ?_, HO2.out.trans hos, fun h => absurd (HER.out.trans h) (by decide)⟩
    rw [HCX.out]
    have hlo := HX2.out.lo
    refine ⟨HX2.out.m.frame hch (fun b hb => by subst hb; exact hlo.1) (fun b hb => by subst hb; exact ⟨_, _, _, HS4.out, by decide, by decide, by decide⟩), ?_, ⟨A4, n4, c4, HS4.out.stale, own_othersS HP4.out hos⟩, hlo⟩
    have h101 : cb ≠ sb := tag_ne HX2.out.cl HS4.out (by decide)
    exact (hch.block cb (Array.getElem?_eq_some_iff.1 HX2.out.cl).1 h101).trans HX2.out.cl
  · have hcx : comX x a en cn l = comS x a en cn l := by unfold comX; rw [← HER.out, if_neg h32]
    have HCX := Lib.hid hcx
    clear hcx
    go_wp2_with (go_at_call 33; refine HCM.out.mono ?_; rintro e2 w2 ⟨rfl, hx2, ho2, hnw⟩; have HX2 := Lib.hid hx2; have HNW := Lib.hid hnw; have HO2 := Lib.hid ((Others.below HB1.out).s.trans ho2); clear hx2 ho2 hnw HCM)
    go_ret
    refine ⟨by rw [← HER.out]; rfl, by rw [HCX.out]; exact HX2.out, HO2.out, fun h => ?_⟩
    rw [HCX.out]
    obtain ⟨A4, n4, c4, h1, h2⟩ := HNW.out (HER.out.trans h)
    exact ⟨A4, n4, c4, h1, own_mono h2 HB1.out.size⟩
theorem Commit_any (w0 w : World) (sb cb g : Nat) (x : SS) (a en cn : Nat) (l : List Cg) (hx : SMem w0 w sb cb g x) (ok : CmOk x a en cn l) (hst : x.st = false) (A : Option Addr) (n c : Nat) (hl : HC w A n c l) :
    Calls Try.prog 13 #[.pointer (some ⟨sb, 0, none⟩), .slice A n c] w (ComPost w0 w sb cb g (comX x a en cn l) (comE x a en cn l)) :=
  (Commit_new w0 w sb cb g x a en cn l hx ok hst A n c hl).mono fun _ _ h => h.old
end Go.Proofs.Ytbfhlleipeipbaa

/- What is proved: plain facts on a store whose disk is never armed: what a Commit answers, and what it leaves. No program in it. Conditions: those in each statement. -/
namespace Go.Proofs.Ytbfhlleipeipbaa
open Go.RowKit

theorem JS.app_fields (x : JS) (b : List UInt8) : (x.app b).fr = x.fr ∧ (x.app b).to = x.to ∧ (x.app b).d.last.length = x.d.last.length := by
  unfold JS.app
  split
  · exact ⟨rfl, rfl, rfl⟩
  · split
    · exact ⟨rfl, rfl, rfl⟩
    · split
      · exact ⟨rfl, rfl, rfl⟩
      · split
        · exact ⟨rfl, rfl, JS.wr_last x b⟩
        · exact ⟨rfl, rfl, JS.wr_last x b⟩
theorem wr_up {x : JS} (h : x.d.left < 0) (b : List UInt8) : (x.wr b).fSt.left = x.d.left ∧ (x.wr b).fSt.buf = [] := by
  have hl : (x.wr b).left = x.d.left := appW_up h _ _ _
  rw [fSt_up (by rw [hl]; exact h)]
  exact ⟨hl, rfl⟩
theorem JS.app_disk {x : JS} (h : x.d.left < 0) (hb : x.d.buf = []) (b : List UInt8) : (x.app b).d.left = x.d.left ∧ (x.app b).d.buf = [] := by
  unfold JS.app
  split
  · exact ⟨rfl, hb⟩
  · split
    · exact ⟨rfl, hb⟩
    · split
      · exact ⟨rfl, hb⟩
      · split
        · exact wr_up h b
        · exact wr_up h b
/-- a store on a disk of N sectors that is never armed -/
structure Inv (N T : Nat) (x : SS) (a en cn : Nat) : Prop where
  lft : x.d.left < 0
  buf : x.d.buf = []
  len : x.d.last.length = N
  tn : x.h.t = (T : Int)
  ha : x.h.a = (a : Int)
  he : x.h.e = (en : Int)
  hc : x.h.c = (cn : Int)
  a1 : a ≤ 1
  lo : en ≤ 64 * hlf N
  ct : 16 * cn ≤ en
  asc : Asc x.P
  st : x.st = false
theorem frA_in {N a : Nat} (hN : 4 ≤ N) (ha : a ≤ 1) : frA N a + hlf N ≤ N := by
  unfold frA hlf
  rcases (show a = 0 ∨ a = 1 by omega) with rfl | rfl <;> omega
theorem areaJ_ok {d : D} {a en cn : Nat} (hN : 4 ≤ d.last.length) (ha : a ≤ 1) (h1 : en ≤ 64 * hlf d.last.length) (h2 : 16 * cn ≤ en) : (areaJ d a en cn).Ok := by
  have := frA_in hN ha
  refine ⟨?_, ?_, ?_, h2⟩
  · show frA d.last.length a ≤ frA d.last.length a + hlf d.last.length; omega
  · show frA d.last.length a + hlf d.last.length ≤ d.last.length; exact this
  · show en ≤ 64 * (frA d.last.length a + hlf d.last.length - frA d.last.length a)
    rw [Nat.add_sub_cancel_left]; exact h1
/-- is there room for so many bytes? -/
def fitsB (N en len : Nat) : Prop := len ≤ 1048576 ∧ en + 16 + len ≤ 64 * hlf N
theorem areaJ_err {d : D} {a en cn : Nat} (h : d.left < 0) (b : List UInt8) : (fitsB d.last.length en b.length → (areaJ d a en cn).err b = 0) ∧ (¬ fitsB d.last.length en b.length → full ((areaJ d a en cn).err b)) := by
  have hr : (areaJ d a en cn).to - (areaJ d a en cn).fr = hlf d.last.length := by
    show frA d.last.length a + hlf d.last.length - frA d.last.length a = _
    omega
  have he := JS.err_up (x := areaJ d a en cn) h b
  rw [hr] at he
  have hen : (areaJ d a en cn).en = en := rfl
  rw [hen] at he
  unfold fitsB
  constructor
  · rintro ⟨h1, h2⟩
    rw [he, if_neg (by omega), if_neg (by omega)]
  · intro hn
    rw [he]
    by_cases h1 : 1048576 < b.length
    · rw [if_pos h1]; exact .inr rfl
    · rw [if_neg h1, if_pos (by omega)]; exact .inl rfl
theorem areaJ_app {d : D} {a en cn : Nat} (h : d.left < 0) (b : List UInt8) (hf : fitsB d.last.length en b.length) : ((areaJ d a en cn).app b).en = en + 16 + b.length ∧ ((areaJ d a en cn).app b).cn = cn + 1 := by
  obtain ⟨h1, h2⟩ := hf
  have hr : (areaJ d a en cn).to - (areaJ d a en cn).fr = hlf d.last.length := by
    show frA d.last.length a + hlf d.last.length - frA d.last.length a = _
    omega
  have he := JS.app_up (x := areaJ d a en cn) h b (by omega) (by rw [hr]; show ¬ 64 * hlf d.last.length < en + 16 + b.length; omega)
  rw [he]
  exact ⟨rfl, rfl⟩
theorem layJ_fields (d : D) (a en cn : Nat) (b b2 : List UInt8) : (layJ d a en cn b b2).fr = frA d.last.length (layA d a en cn b) ∧ (layJ d a en cn b b2).to = frA d.last.length (layA d a en cn b) + hlf d.last.length ∧ (layJ d a en cn b b2).d.last.length = d.last.length := by
  unfold layJ layA
  by_cases hf : full ((areaJ d a en cn).err b)
  · rw [if_pos hf, if_pos hf]
    exact JS.app_fields (areaJ d (1 - a) 0 0) b2
  · rw [if_neg hf, if_neg hf]
    exact JS.app_fields (areaJ d a en cn) b
theorem layJ_disk {d : D} (h : d.left < 0) (hb : d.buf = []) (a en cn : Nat) (b b2 : List UInt8) : (layJ d a en cn b b2).d.left = d.left ∧ (layJ d a en cn b b2).d.buf = [] := by
  unfold layJ
  by_cases hf : full ((areaJ d a en cn).err b)
  · rw [if_pos hf]
    exact JS.app_disk (x := areaJ d (1 - a) 0 0) h hb b2
  · rw [if_neg hf]
    exact JS.app_disk (x := areaJ d a en cn) h hb b
/-- what a batch and the pairs must be -/
structure Sized (P l : List Cg) : Prop where
  bl : (batB l).length ≤ 549755813888
  lv : ∀ y ∈ l, y.key.size + y.val.size ≤ 274877906944
  pn : (P.length + l.length) * 40 ≤ 140737488355328
  pb : (chsB (allC P l)).length ≤ 1099511627776
  pv : ∀ y ∈ allC P l, y.key.size + y.val.size ≤ 1099511627776
theorem Inv.cmOk {N T : Nat} {x : SS} {a en cn : Nat} (h : Inv N T x a en cn) (hN : 4 ≤ N) {l : List Cg} (hs : Sized x.P l) : CmOk x a en cn l := by
  obtain ⟨f1, f2, f3⟩ := layJ_fields x.d a en cn (batB l) (batB (allC x.P l))
  have hd := layJ_disk h.lft h.buf a en cn (batB l) (batB (allC x.P l))
  exact ⟨h.ha, h.he, h.hc, h.a1, by rw [h.tn]; omega, areaJ_ok (by rw [h.len]; exact hN) h.a1 (by rw [h.len]; exact h.lo) h.ct, areaJ_ok (by rw [h.len]; exact hN) (by omega) (by omega) (by omega), h.asc, hs.bl, hs.lv, hs.pn, hs.pb, hs.pv, by rw [h.buf]; exact Nat.zero_le _, by show (layJ _ _ _ _ _ _).d.buf.length ≤ _; rw [hd.2]; exact Nat.zero_le _, f3, f1, f2⟩
theorem set_up {d : D} {h : H4} (hl : d.left < 0) (hN : 2 ≤ d.last.length) (ht0 : 0 ≤ h.t) (ht : h.t < 4611686018427387904) (a e c : Int) : setErr d h a e c = 0 ∧ (setSt d h a e c).left = d.left ∧ (setSt d h a e c).buf = [] := by
  have hp : placeOf (h.t + 1) = 0 ∨ placeOf (h.t + 1) = 1 := by unfold placeOf; by_cases k : (h.t + 1) % 2 = 1 <;> simp [k]
  have hr : d.refuse (placeOf (h.t + 1)) = 0 := by
    unfold D.refuse
    rw [if_neg (by omega), if_neg (by rcases hp with e | e <;> rw [e] <;> omega)]
  have hw : d.wErr (placeOf (h.t + 1)) 64 = 0 := wErr_zero hr (by omega)
  have hl2 : (d.wSt (placeOf (h.t + 1)) (secB (nextH h a e c))).left = d.left := wSt_up hl _ _
  have hfs := fSt_up (s := d.wSt (placeOf (h.t + 1)) (secB (nextH h a e c))) (by rw [hl2]; exact hl)
  refine ⟨?_, ?_, ?_⟩
  · unfold setErr
    rw [if_neg (by omega), if_neg (fun k => k hw)]
    unfold D.fErr
    rw [if_neg (by rw [hl2]; omega)]
  · unfold setSt
    rw [if_neg (by omega), if_neg (fun k => k hw), hfs]
    exact hl2
  · unfold setSt
    rw [if_neg (by omega), if_neg (fun k => k hw), hfs]
/-- a Commit that finds room -/
theorem Inv.commit {N T : Nat} {x : SS} {a en cn : Nat} (h : Inv N T x a en cn) (hN : 4 ≤ N) (hT : T < 4611686018427387904) (l : List Cg) (hf : fitsB N en (batB l).length ∨ fitsB N 0 (batB (allC x.P l)).length) :
    comE x a en cn l = 0 ∧ (comX x a en cn l).P = allC x.P l ∧ ∃ a' en' cn', Inv N (T + 1) (comX x a en cn l) a' en' cn' := by
  obtain ⟨f1, f2, f3⟩ := layJ_fields x.d a en cn (batB l) (batB (allC x.P l))
  obtain ⟨d1, d2⟩ := layJ_disk h.lft h.buf a en cn (batB l) (batB (allC x.P l))
  have e1 := areaJ_err (a := a) (en := en) (cn := cn) h.lft (batB l)
  have e2 := areaJ_err (a := 1 - a) (en := 0) (cn := 0) h.lft (batB (allC x.P l))
  rw [h.len] at e1 e2 f1 f2 f3
  have hE1 : comE1 x.d a en cn x.P l = 0 := by
    unfold comE1 layE
    by_cases hfit : fitsB N en (batB l).length
    · have h0 := e1.1 hfit
      rw [if_neg (by rw [h0]; unfold full; omega), h0]
    · have hfu := e1.2 hfit
      have h0 := e2.1 (hf.resolve_left hfit)
      rw [if_pos hfu, if_neg (by rw [h0]; unfold full; omega), h0]
  have hlo : (comL x.d a en cn x.P l).en ≤ 64 * hlf N ∧ 16 * (comL x.d a en cn x.P l).cn ≤ (comL x.d a en cn x.P l).en := by
    unfold comL layJ
    have hct := h.ct
    by_cases hfit : fitsB N en (batB l).length
    · have h0 := e1.1 hfit
      rw [if_neg (by rw [h0]; unfold full; omega)]
      obtain ⟨g1, g2⟩ := areaJ_app (a := a) (cn := cn) h.lft (batB l) (by rw [h.len]; exact hfit)
      rw [g1, g2]
      obtain ⟨_, k2⟩ := hfit
      omega
    · have hfu := e1.2 hfit
      have hfit2 := hf.resolve_left hfit
      rw [if_pos hfu]
      obtain ⟨g1, g2⟩ := areaJ_app (a := 1 - a) (cn := 0) h.lft (batB (allC x.P l)) (by rw [h.len]; exact hfit2)
      rw [g1, g2]
      obtain ⟨_, k2⟩ := hfit2
      omega
  have hA : comA x.d a en cn l ≤ 1 := by
    have := h.a1
    unfold comA layA
    split <;> omega
  have hdl : (comL x.d a en cn x.P l).d.left < 0 := by show (layJ _ _ _ _ _ _).d.left < 0; rw [d1]; exact h.lft
  have hdN : (comL x.d a en cn x.P l).d.last.length = N := f3
  have htn := h.tn
  obtain ⟨s1, s2, s3⟩ := set_up (h := x.h) hdl (by rw [hdN]; omega) (by omega) (by omega) (comA x.d a en cn l : Int) ((comL x.d a en cn x.P l).en : Int) ((comL x.d a en cn x.P l).cn : Int)
  have hE : comE x a en cn l = 0 := by unfold comE; rw [if_neg (fun k => k hE1)]; exact s1
  have hS : comS x a en cn l = ⟨setSt (comL x.d a en cn x.P l).d x.h (comA x.d a en cn l) (comL x.d a en cn x.P l).en (comL x.d a en cn x.P l).cn, nextH x.h (comA x.d a en cn l) (comL x.d a en cn x.P l).en (comL x.d a en cn x.P l).cn, allC x.P l, x.st⟩ := by
    unfold comS; rw [if_neg (fun k => k hE1), if_neg (fun k => k hE)]
  have hX : comX x a en cn l = comS x a en cn l := by unfold comX; rw [hE, if_neg (by omega)]
  rw [hX, hS]
  refine ⟨hE, rfl, comA x.d a en cn l, (comL x.d a en cn x.P l).en, (comL x.d a en cn x.P l).cn, ?_⟩
  exact ⟨by show (setSt _ _ _ _ _).left < 0; rw [s2]; exact hdl, s3, by show (setSt _ _ _ _ _).last.length = N; rw [setSt_len]; exact hdN, by show x.h.t + 1 = _; rw [htn]; omega, rfl, rfl, rfl, hA, hlo.1, hlo.2, allC_asc h.asc, h.st⟩
/-- a Commit that finds none -/
theorem Inv.refused {N T : Nat} {x : SS} {a en cn : Nat} (h : Inv N T x a en cn) (l : List Cg) (h1 : ¬ fitsB N en (batB l).length) (h2 : ¬ fitsB N 0 (batB (allC x.P l)).length) :
    comE x a en cn l = 51 ∧ comX x a en cn l = x := by
  have e1 := (areaJ_err (a := a) (en := en) (cn := cn) h.lft (batB l)).2 (by rw [h.len]; exact h1)
  have e2 := (areaJ_err (a := 1 - a) (en := 0) (cn := 0) h.lft (batB (allC x.P l))).2 (by rw [h.len]; exact h2)
  have hE1 : comE1 x.d a en cn x.P l = 51 := by unfold comE1 layE; rw [if_pos e1, if_pos e2]
  have hL : comL x.d a en cn x.P l = areaJ x.d (1 - a) 0 0 := by unfold comL layJ; rw [if_pos e1]; exact full_app e2
  have hE : comE x a en cn l = 51 := by unfold comE; rw [if_pos (by rw [hE1]; omega), hE1]
  have hS : comS x a en cn l = x := by
    unfold comS
    rw [if_pos (by rw [hE1]; omega), hL]
    rfl
  refine ⟨hE, ?_⟩
  unfold comX
  rw [hE, hS, if_neg (by omega)]
end Go.Proofs.Ytbfhlleipeipbaa

/- What is proved: the contracts of store's Count and Get. Conditions: those in each statement. -/
namespace Go.Proofs.Ytbfhlleipeipbaa
open Go.RowKit Go.Lib Go.Sort

set_option maxHeartbeats 400000 in
theorem Count_any (w0 w : World) (sb cb g : Nat) (x : SS) (hx : SMem w0 w sb cb g x) : Calls Try.prog 23 #[.pointer (some ⟨sb, 0, none⟩)] w fun e w' => e = .returned (.int .i64 (x.P.length : Int)) ∧ w = w' := by
  obtain ⟨AP, nP, cP, hs, hP⟩ := hx.ex
  have s17 := hs.cells.2.2.2.1.1
  have hl : x.P.length = nP := (own_hc hP).1.1
  rw [hl]
  clear hs hP hx hl
  go_enter Try.func23, Try.ntmps23
  go_wp2
  go_ret
  exact ⟨rfl, rfl⟩
/-- the value under a key, and whether there is one -/
def valOf (P : List Cg) (t : List UInt8) : ByteArray × Bool := match P.find? (hasKey t) with
  | none => (⟨#[]⟩, false)
  | some c => (c.val, true)
/-- where a key stands among rising pairs -/
theorem findLow {P : List Cg} (hP : Asc P) (t : List UInt8) : if isIn P t = true then ∃ h : lowN P t < P.length, P.find? (hasKey t) = some P[lowN P t] else P.find? (hasKey t) = none := by
  have hlow := low_parts t P
  have hpre : ∀ z ∈ P.take (lowN P t), hasKey t z = false := fun z hz => by
    have := take_less (Q := P) (t := t) z hz
    apply hasKey_no
    intro e
    rw [e, cb_self] at this
    omega
  have hsp : P.find? (hasKey t) = (P.dropWhile (lessT t)).find? (hasKey t) := by
    conv => lhs; rw [← List.take_append_drop (lowN P t) P, List.find?_append, hlow.2]
    rw [List.find?_eq_none.2 (fun z hz => by rw [hpre z hz]; exact Bool.false_ne_true)]
    rfl
  by_cases hi : isIn P t = true
  · rw [if_pos hi]
    have hlt := isIn_lt hi
    refine ⟨hlt, ?_⟩
    rw [hsp]
    have hd : P.dropWhile (lessT t) = P[lowN P t] :: P.drop (lowN P t + 1) := by rw [← hlow.2, List.drop_eq_getElem_cons hlt]
    unfold isIn at hi
    rw [hd] at hi ⊢
    have hk : ky P[lowN P t] = t := cb_zero _ _ (of_decide_eq_true hi)
    rw [List.find?_cons_of_pos (hasKey_iff.2 hk)]
  · rw [if_neg hi, hsp]
    unfold isIn at hi
    cases hd : P.dropWhile (lessT t) with
    | nil => rfl
    | cons y D =>
      rw [hd] at hi
      have hne : compareBytes (ky y) t ≠ 0 := fun e => hi (decide_eq_true e)
      have hD : Asc (y :: D) := by rw [← hd]; exact List.Pairwise.sublist (List.dropWhile_sublist _) hP
      have hD' := List.pairwise_cons.1 hD
      have hy : ¬ compareBytes (ky y) t < 0 := by
        intro hlt'
        have := List.head?_dropWhile_not (lessT t) P
        rw [hd] at this
        simp only [List.head?_cons] at this
        have h2 : lessT t y = false := by simpa using this
        exact (of_decide_eq_false h2) hlt'
      have hgt : compareBytes t (ky y) < 0 := by rw [cb_neg]; omega
      refine List.find?_eq_none.2 fun z hz => ?_
      rw [hasKey_no (fun e => ?_)]
      · exact Bool.false_ne_true
      · have hz' : compareBytes t (ky z) < 0 := by
          rcases List.mem_cons.1 hz with rfl | hz
          · exact hgt
          · exact cb_trans _ _ _ hgt ((klt_iff y z).1 (hD'.1 z hz))
        rw [e, cb_self] at hz'
        omega

set_option maxHeartbeats 1000000 in
theorem Get_any (w0 w : World) (sb cb g : Nat) (x : SS) (hx : SMem w0 w sb cb g x) (ha : Asc x.P) (hn : x.P.length < 4611686018427387904) (t : ByteArray) :
    Calls Try.prog 20 #[.pointer (some ⟨sb, 0, none⟩), .string t] w fun e w' => e = .returned (.tuple #[.string (valOf x.P t.data.toList).1, .bool (valOf x.P t.data.toList).2]) ∧ Below w.heap.size w w' := by
  obtain ⟨AP, nP, cP, hs, hP⟩ := hx.ex
  have hl : x.P.length = nP := (own_hc hP).1.1
  have HF := Lib.hid (find_any AP nP cP x.P t w (own_hc hP).1 ha (by omega))
  have hfl := findLow ha t.data.toList
  have HFL := Lib.hid hfl
  have HS := Lib.hid hs
  have HP := Lib.hid (own_hc hP).1
  have s17 := hs.cells.2.2.2.1.1
  clear hs hP hx hfl
  by_cases hi : isIn x.P t.data.toList = true
  · have hfl := HFL.out
    rw [if_pos hi] at hfl
    obtain ⟨hlt, hf⟩ := hfl
    have hv : valOf x.P t.data.toList = (x.P[lowN x.P t.data.toList].val, true) := by unfold valOf; rw [hf]
    rw [hv]
    rw [hi] at HF
    obtain ⟨b, o, rfl, hbl, c0, c1, c2⟩ := HP.out.elem (lowN x.P t.data.toList) hlt
    generalize x.P[lowN x.P t.data.toList].val = vv at *
    generalize lowN x.P t.data.toList = i at *
    have hlt' : i < nP := by omega
    have hltz : (i : Int) < (nP : Int) := by omega
    have pz : (0 : Int) ≤ (i : Int) := by omega
    clear hf hv HFL hi c0 c2
    go_enter Try.func20, Try.ntmps20
    go_wp2_with (go_at_call 40; refine HF.out.mono ?_; rintro e w1 ⟨rfl, hb1⟩; have s17' := (HS.out.below hb1).cells.2.2.2.1.1; have c1' := (hb1.cell (p := ⟨b, o + i * 3 + 1, none⟩) hbl).trans c1)
    go_ret2
    exact ⟨rfl, hb1⟩
  · have hfl := HFL.out
    rw [if_neg hi] at hfl
    have hv : valOf x.P t.data.toList = (⟨#[]⟩, false) := by unfold valOf; rw [hfl]
    rw [hv]
    have hi' : isIn x.P t.data.toList = false := by simpa using hi
    rw [hi'] at HF
    clear hfl hv HFL hi hi'
    go_enter Try.func20, Try.ntmps20
    go_wp2_with (go_at_call 40; refine HF.out.mono ?_; rintro e w1 ⟨rfl, hb1⟩)
    go_ret2
    exact ⟨rfl, hb1⟩
end Go.Proofs.Ytbfhlleipeipbaa

/- What is proved: the contract of store's Under. Conditions: those in each statement. -/
namespace Go.Proofs.Ytbfhlleipeipbaa
open Go.RowKit Go.Lib Go.Sort

/-- does a text begin so? -/
def preB (p l : List UInt8) : Bool := decide (p.length ≤ l.length) && (l.take p.length == p)
theorem pre_ext (s t : ByteArray) (h : t.size ≤ s.size) : ((s.extract 0 t.size).toList == t.toList) = preB t.data.toList s.data.toList := by
  have e : (s.extract 0 t.size).toList = s.data.toList.take t.data.toList.length := by
    rw [ByteArray.toList_eq, ByteArray.data_extract, size_toList]
    simp
  rw [e, ByteArray.toList_eq]
  unfold preB
  rw [size_toList, size_toList, decide_eq_true h, Bool.true_and]
set_option maxHeartbeats 1000000 in
theorem pre62 (s t : ByteArray) (w : World) : Calls Try.prog 62 #[.string s, .string t] w fun e w' => e = .returned (.bool (preB t.data.toList s.data.toList)) ∧ w = w' := by
  by_cases hle : t.size ≤ s.size
  · have hlez : (t.size : Int) ≤ (s.size : Int) := by omega
    go_enter Try.func62, Try.ntmps62
    go_wp2
    go_ret
    exact ⟨by rw [← pre_ext s t hle]; rfl, rfl⟩
  · have hlez : ¬ (t.size : Int) ≤ (s.size : Int) := by omega
    have hv : preB t.data.toList s.data.toList = false := by unfold preB; rw [size_toList, size_toList, decide_eq_false hle]; rfl
    rw [hv]
    clear hv
    go_enter Try.func62, Try.ntmps62
    go_wp2
    go_ret
    exact ⟨rfl, rfl⟩
theorem hasPrefix_any (s t : ByteArray) (w : World) : Calls Try.prog 41 #[.string s, .string t] w fun e w' => e = .returned (.bool (preB t.data.toList s.data.toList)) ∧ w = w' := by
  have H := Lib.hid (pre62 s t w)
  generalize preB t.data.toList s.data.toList = b at *
  go_enter Try.func41, Try.ntmps41
  go_wp2_with (go_at_call 62; refine H.out.mono ?_; rintro e w1 ⟨rfl, rfl⟩)
  go_ret
  exact ⟨rfl, rfl⟩
/-- the pairs that begin so, from where the beginning would stand -/
def undL (P : List Cg) (t : List UInt8) : List Cg := (P.drop (lowN P t)).takeWhile fun c => preB t (ky c)
theorem tw_at {α : Type} (f : α → Bool) : ∀ (l : List α) (j : Nat) (_h : j < (l.takeWhile f).length), ∃ h' : j < l.length, f l[j] = true
  | [], j, h => by simp at h
  | x :: l, j, h => by
    by_cases hx : f x = true
    · rw [List.takeWhile_cons_of_pos hx] at h
      match j with
      | 0 => exact ⟨by simp, hx⟩
      | j + 1 =>
        obtain ⟨h', hf⟩ := tw_at f l j (by simpa using h)
        exact ⟨by simpa using h', by simpa using hf⟩
    · rw [List.takeWhile_cons_of_neg hx] at h; simp at h
theorem tw_end {α : Type} (f : α → Bool) : ∀ (l : List α) (_h : (l.takeWhile f).length < l.length), f l[(l.takeWhile f).length] = false
  | [], h => by simp at h
  | x :: l, h => by
    by_cases hx : f x = true
    · have e : ((x :: l).takeWhile f).length = (l.takeWhile f).length + 1 := by rw [List.takeWhile_cons_of_pos hx]; rfl
      simp only [e, List.getElem_cons_succ]
      exact tw_end f l (by rw [e] at h; simpa using h)
    · have e : ((x :: l).takeWhile f).length = 0 := by rw [List.takeWhile_cons_of_neg hx]; rfl
      simp only [e, List.getElem_cons_zero]
      simpa using hx
theorem tw_take {α : Type} (f : α → Bool) : ∀ l : List α, l.take (l.takeWhile f).length = l.takeWhile f
  | [] => rfl
  | x :: l => by
    by_cases hx : f x = true
    · rw [List.takeWhile_cons_of_pos hx, List.length_cons, List.take_succ_cons, tw_take f l]
    · rw [List.takeWhile_cons_of_neg hx]; rfl
/-- what Under answers -/
def UndPost (w : World) (l : List Cg) (e : Ending) (w' : World) : Prop := ∃ A n c, e = .returned (.slice A n c) ∧ w'.ownsRow w.heap.size 52 3 (.slice A n c) n (chV l) ∧ Below w.heap.size w w'
theorem clone_hc (A : Option Addr) (n c : Nat) (l : List Cg) (w : World) (h : HC w A n c l) (hz : A = none → c = 0) (hb : n * 40 ≤ 140737488355328) : Calls Try.prog 42 #[.slice A n c] w (UndPost w l) := by
  rcases h.2.2.2 with rfl | ⟨b, o, rfl⟩
  · have hc := hz rfl
    have hn : n = 0 := by have := h.2.1; omega
    subst hn
    have hl : l = [] := List.length_eq_zero_iff.1 h.1
    subst hl
    refine (clone_nil 0 c w).mono ?_
    rintro e w' ⟨rfl, rfl⟩
    exact ⟨none, 0, 0, rfl, World.ownsRow_nil _ _ _ _, Below.refl _ _⟩
  · refine (clone_some b o n c l w h.1 hb (by unfold maxLen; omega) (fun j u hu => ?_)).mono ?_
    · rcases Nat.eq_zero_or_pos n with h0 | h0
      · subst h0
        have hl : l = [] := List.length_eq_zero_iff.1 h.1
        subst hl
        simp [chV] at hu
      · obtain ⟨b', o', he, _, hH⟩ := h.2.2.1 h0
        cases he
        exact holdsK_cells hH j u hu
    · rintro e w' ⟨v', rfl, ho, _, hb'⟩
      obtain ⟨A', c', rfl, _⟩ := own_form52 ho
      exact ⟨A', n, c', rfl, ho, hb'⟩

set_option maxRecDepth 100000 in
set_option maxHeartbeats 2000000 in
theorem Under_any (w0 w : World) (sb cb g : Nat) (x : SS) (hx : SMem w0 w sb cb g x) (ha : Asc x.P) (hn : x.P.length * 40 ≤ 140737488355328) (t : ByteArray) :
    Calls Try.prog 21 #[.pointer (some ⟨sb, 0, none⟩), .string t] w (UndPost w (undL x.P t.data.toList)) := by
  obtain ⟨AP, nP, cP, hs, hP⟩ := hx.ex
  obtain ⟨hH, hz⟩ := own_hc hP
  have hl : x.P.length = nP := hH.1
  have hnc : nP ≤ cP := hH.2.1
  have HF := Lib.hid (find_any AP nP cP x.P t w hH ha (by omega))
  have hlow := lowN_le x.P t.data.toList
  have hk := (List.takeWhile_sublist (l := x.P.drop (lowN x.P t.data.toList)) (fun c => preB t.data.toList (ky c))).length_le
  rw [List.length_drop] at hk
  have hat := tw_at (fun c => preB t.data.toList (ky c)) (x.P.drop (lowN x.P t.data.toList))
  have hend := tw_end (fun c => preB t.data.toList (ky c)) (x.P.drop (lowN x.P t.data.toList))
  have htk := tw_take (fun c => preB t.data.toList (ky c)) (x.P.drop (lowN x.P t.data.toList))
  have hu : (x.P.drop (lowN x.P t.data.toList)).takeWhile (fun c => preB t.data.toList (ky c)) = undL x.P t.data.toList := rfl
  rw [hu] at hk hat hend htk
  have HAT := Lib.hid hat
  have HEND := Lib.hid hend
  have HTK := Lib.hid htk
  have HS := Lib.hid hs
  have HH := Lib.hid hH
  have HZ := Lib.hid hz
  have s17 := hs.cells.2.2.2.1.1
  generalize isIn x.P t.data.toList = fnd at *
  generalize lowN x.P t.data.toList = i at *
  generalize hkk : (undL x.P t.data.toList).length = k at *
  have HKK := Lib.hid hkk
  clear hs hP hx hat hend htk hu hH hz hkk
  go_enter Try.func21, Try.ntmps21
  go_wp2_with (go_at_call 40; refine HF.out.mono ?_; rintro e w1 ⟨rfl, hb1⟩; have HB1 := Lib.hid hb1; clear hb1 s17 HF)
  go_loopg [7] k (fun kx v7 wr => ∃ (p : Nat), v7 = .int .i64 (p : Int) ∧ i ≤ p ∧ p ≤ i + k ∧ i + k - p ≤ kx ∧ Aside (Below w.heap.size w wr))
  case atStart => exact ⟨i, rfl, by omega, by omega, by omega, (HB1.out : Aside _)⟩
  case round =>
    clear HB1
    obtain ⟨p, rfl, hip, hpk, hkx, HB⟩ := hrel
    have s17 := (HS.out.below HB.out).cells.2.2.2.1.1
    have pz : (0 : Int) ≤ (p : Int) := by omega
    by_cases hpn : p < nP
    · have hpnz : (p : Int) < (nP : Int) := by omega
      have hpl : p < x.P.length := by omega
      obtain ⟨b, o, eA, hbl, c0, _, _⟩ := HH.out.elem p hpl
      have c0' := (HB.out.cell (p := ⟨b, o + p * 3, none⟩) hbl).trans c0
      have hpr := hasPrefix_any x.P[p].key t wr
      have hdr : ∀ h, (x.P.drop i)[p - i]'h = x.P[p] := fun h => by rw [List.getElem_drop]; congr 1; omega
      by_cases hlt : p < i + k
      · obtain ⟨h', hf⟩ := HAT.out (p - i) (by have := HKK.out; omega)
        rw [hdr] at hf
        have hf' : preB t.data.toList x.P[p].key.data.toList = true := hf
        rw [hf'] at hpr
        have HPR := Lib.hid hpr
        generalize x.P[p].key = kk at *
        subst eA
        clear hpr hdr hf hf' c0
        go_wp2_with (go_at_call 41; refine HPR.out.mono ?_; rintro e w2 ⟨rfl, rfl⟩)
        go_roundg (i + k - (p + 1))
        case measure => omega
        case rel => exact ⟨p + 1, by go_num, by omega, by omega, Nat.le_refl _, HB⟩
      · have hpe : p = i + k := by omega
        have hf : preB t.data.toList x.P[p].key.data.toList = false := by
          have h1 := HEND.out (by rw [List.length_drop]; omega)
          have h2 := hdr (by rw [List.length_drop]; omega)
          rw [← h2]
          show preB t.data.toList (ky _) = false
          rw [← h1]
          congr 3
          omega
        rw [hf] at hpr
        have HPR := Lib.hid hpr
        generalize x.P[p].key = kk at *
        subst eA
        clear hpr hdr hf c0 hpe
        have hseg : ((x.P.take p).drop i) = undL x.P t.data.toList := by rw [List.drop_take, show p - i = k by omega]; exact HTK.out
        have HSL := Lib.hid (fun (A' : Option Addr) h1 h2 => hseg ▸ ((HH.out.below HB.out).take (i := p) (by omega) |>.drop (A' := A') (i := i) (by omega) h1 h2))
        clear hseg
        have hci : cP ≠ i := by omega
        · have HCL := Lib.hid (clone_hc (some ⟨b, o + i * 3, none⟩) (p - i) (cP - i) _ wr (HSL.out _ (fun _ => by rw [Option.map_some, Addr.add_lit]) (fun e => absurd e hci)) (fun e => by cases e) (by omega))
          go_wp2_with (go_at_call 41; refine HPR.out.mono ?_; rintro e w2 ⟨rfl, rfl⟩)
          refine HCL.out.mono ?_
          rintro e w3 ⟨A3, n3, c3, rfl, ho3, hb3⟩
          go_wp2_with fail
          go_ret
          exact ⟨A3, n3, c3, rfl, own_mono ho3 HB.out.size, HB.out.trans (hb3.mono HB.out.size)⟩
    · have hpnz : ¬ (p : Int) < (nP : Int) := by omega
      have hseg : ((x.P.take p).drop i) = undL x.P t.data.toList := by rw [List.drop_take, show p - i = k by omega]; exact HTK.out
      have HSL := Lib.hid (fun (A' : Option Addr) h1 h2 => hseg ▸ ((HH.out.below HB.out).take (i := p) (by omega) |>.drop (A' := A') (i := i) (by omega) h1 h2))
      clear hseg
      by_cases hci : cP = i
      · subst hci
        have hcl := clone_hc (AP) (p - cP) (cP - cP) _ wr (HSL.out _ (fun e => absurd rfl e) (fun _ => rfl)) (fun _ => Nat.sub_self _) (by omega)
        rw [Nat.sub_self] at hcl
        have HCL := Lib.hid hcl
        clear hcl
        go_wp2_with fail
        refine HCL.out.mono ?_
        rintro e w3 ⟨A3, n3, c3, rfl, ho3, hb3⟩
        go_wp2_with fail
        go_ret
        exact ⟨A3, n3, c3, rfl, own_mono ho3 HB.out.size, HB.out.trans (hb3.mono HB.out.size)⟩
      · have HCL := Lib.hid (clone_hc ((AP).map (·.add (i * 3))) (p - i) (cP - i) _ wr (HSL.out _ (fun _ => rfl) (fun e => absurd e hci)) (fun e => by
          cases hA : AP with
          | none => have := HZ.out hA; omega
          | some ad => rw [hA] at e; cases e) (by omega))
        go_wp2_with fail
        refine HCL.out.mono ?_
        rintro e w3 ⟨A3, n3, c3, rfl, ho3, hb3⟩
        go_wp2_with fail
        go_ret
        exact ⟨A3, n3, c3, rfl, own_mono ho3 HB.out.size, HB.out.trans (hb3.mono HB.out.size)⟩
end Go.Proofs.Ytbfhlleipeipbaa

/- What is proved: a store that is opened on a new disk. Conditions: those in each statement. -/
namespace Go.Proofs.Ytbfhlleipeipbaa
open Go.RowKit

theorem new_told {N i : Nat} (h : i < N) : (newSt N).told i = zer := by
  show ((List.replicate N zer)[i]?).getD [] = zer
  rw [List.getElem?_replicate, if_pos h]; rfl
theorem rd_zero : rd (List.replicate 8 0) = 0 := by
  unfold rd
  have : num (List.replicate 8 0) = 0 := by rfl
  rw [this]
  exact IntWalk.wrap64_in _ (by omega)
theorem rdH_zer : rdH zer = H4.zero := by
  have e1 : zer.take 8 = List.replicate 8 0 := rfl
  have e2 : (zer.drop 8).take 8 = List.replicate 8 0 := rfl
  have e3 : (zer.drop 16).take 8 = List.replicate 8 0 := rfl
  have e4 : (zer.drop 24).take 8 = List.replicate 8 0 := rfl
  unfold rdH
  rw [e1, e2, e3, e4, rd_zero]; rfl
theorem rdH_zer2 : rdH (zer.drop 32) = H4.zero := by
  have e1 : (zer.drop 32).take 8 = List.replicate 8 0 := rfl
  have e2 : ((zer.drop 32).drop 8).take 8 = List.replicate 8 0 := rfl
  have e3 : ((zer.drop 32).drop 16).take 8 = List.replicate 8 0 := rfl
  have e4 : ((zer.drop 32).drop 24).take 8 = List.replicate 8 0 := rfl
  unfold rdH
  rw [e1, e2, e3, e4, rd_zero]; rfl
theorem toldOf_zer : toldOf zer = H4.zero := by unfold toldOf; rw [rdH_zer, rdH_zer2, if_pos rfl]
theorem new_openH {N : Nat} (h : 4 ≤ N) : openH (newSt N) = H4.zero := by
  have hz : ¬ H4.zero.t < H4.zero.t := Int.lt_irrefl _
  rw [openH_eq, new_told (by omega), new_told (by omega), toldOf_zer, pickH_le hz, pickH_le hz]
theorem new_mend {N : Nat} (h : 4 ≤ N) : mend (newSt N) = newSt N := by
  have hs : ∀ i, i < N → mendS (newSt N) i = newSt N := fun i hi => by
    unfold mendS
    rw [new_told hi, if_pos (show zer.take 32 = zer.drop 32 from rfl)]
  unfold mend
  rw [mendP_succ, mendP_succ, mendP_zero, hs 0 (by omega), hs 1 (by omega)]
theorem new_len (N : Nat) : (newSt N).last.length = N := by unfold newSt; simp
theorem new_opOk {N : Nat} (h : 4 ≤ N) : OpOk (newSt N) 0 [] := by
  have hl := new_len N
  obtain ⟨e1, e2⟩ := empty_ok (newSt N) (by show (-1 : Int) ≠ 0; omega) (by rw [hl]; exact h) 0 (by omega)
  have hh := new_openH h
  refine ⟨by rw [hh]; rfl, by omega, by rw [hh]; exact e1, by rw [hh]; exact e2, by simp, by simp, by simp, by simp⟩
/-- a new store -/
def newX (N : Nat) : SS := ⟨newSt N, H4.zero, [], false⟩
theorem newX_inv {N : Nat} (_h : 4 ≤ N) : Inv N 0 (newX N) 0 0 0 :=
  ⟨by show (-1 : Int) < 0; omega, rfl, new_len N, rfl, rfl, rfl, rfl, by omega, by omega, by omega, List.Pairwise.nil, rfl⟩
theorem open_new {w0 w : World} {g N : Nat} (hm : Mine w0 w g (newSt N)) (h : 4 ≤ N) : Calls Try.prog 9 #[.pointer (some ⟨g, 0, none⟩)] w (OpenedPost w0 w g (newX N)) := by
  have := open_any w0 w g (newSt N) hm (by show (-1 : Int) < 0; omega) (by rw [new_len]; exact h) (by show ([] : List (Nat × List UInt8)).length ≤ _; exact Nat.zero_le _) 0 [] (new_opOk h)
  rw [new_openH h, new_mend h] at this
  exact this
theorem SMem.below {w0 w w' : World} {sb cb g : Nat} {x : SS} (h : SMem w0 w sb cb g x) (hb : Below w.heap.size w w') : SMem w0 w' sb cb g x :=
  ⟨h.m.below hb, h.cl.below hb, by
    obtain ⟨A1, n1, c1, h1, h2⟩ := h.ex
    exact ⟨A1, n1, c1, h1.below hb, own_belowG h2 hb⟩, h.lo⟩
theorem SMem.b {w0 w : World} {sb cb g : Nat} {x : SS} (h : SMem w0 w sb cb g x) : Below w0.heap.size w0 w := h.m.b
/-- what a Commit on a disk that is never armed does, where there is room -/
theorem Commit_up {w0 w : World} {sb cb g N T : Nat} {x : SS} {a en cn : Nat} (hx : SMem w0 w sb cb g x) (hi : Inv N T x a en cn) (hN : 4 ≤ N) (hT : T < 4611686018427387904) (l : List Cg) (hs : Sized x.P l) (hf : fitsB N en (batB l).length ∨ fitsB N 0 (batB (allC x.P l)).length) (A : Option Addr) (n c : Nat) (hl : HC w A n c l) :
    Calls Try.prog 13 #[.pointer (some ⟨sb, 0, none⟩), .slice A n c] w fun e w' => e = .returned (.int .i64 0) ∧ ∃ x' a' en' cn', SMem w0 w' sb cb g x' ∧ Inv N (T + 1) x' a' en' cn' ∧ x'.P = allC x.P l ∧ OthersS w w' := by
  obtain ⟨e0, hP, a', en', cn', hi'⟩ := hi.commit hN hT l hf
  refine (Commit_any w0 w sb cb g x a en cn l hx (hi.cmOk hN hs) hi.st A n c hl).mono ?_
  rintro e w' ⟨rfl, hm, ho⟩
  exact ⟨by rw [e0], _, a', en', cn', hm, hi', hP, ho⟩
end Go.Proofs.Ytbfhlleipeipbaa

/- What is proved: awake answers true, and turns nothing that was there. No condition. -/
namespace Go.Proofs.Ytbfhlleipeipbaa
open Go.RowKit

def cA : Cg := ⟨⟨#[97]⟩, ⟨#[49]⟩, false⟩
def cB : Cg := ⟨⟨#[98]⟩, ⟨#[50]⟩, false⟩
def cAg : Cg := ⟨⟨#[97]⟩, ⟨#[]⟩, true⟩
theorem all_1 : allC [] [cA, cB] = [cA, cB] := by rfl
theorem all_2 : allC [cA, cB] [cAg] = [cB] := by rfl
theorem und_2 : undL [cB] [] = [cB] := by rfl
theorem val_2 : valOf [cB] [97] = (⟨#[]⟩, false) := by rfl
theorem len_1 : (batB [cA, cB]).length = 46 := by rw [batB_length]; rfl
theorem len_2 : (batB [cAg]).length = 18 := by rw [batB_length]; rfl
theorem sized_1 : Sized [] [cA, cB] := by
  refine ⟨by rw [len_1]; omega, ?_, by simp, by rw [all_1]; show (chsB [cA, cB]).length ≤ _; exact (by decide : 38 ≤ 1099511627776), ?_⟩
  · intro y hy; simp at hy; rcases hy with rfl | rfl <;> decide
  · rw [all_1]; intro y hy; simp at hy; rcases hy with rfl | rfl <;> decide
theorem sized_2 : Sized [cA, cB] [cAg] := by
  refine ⟨by rw [len_2]; omega, ?_, by simp, by rw [all_2]; exact (by decide : 19 ≤ 1099511627776), ?_⟩
  · intro y hy; simp at hy; subst hy; decide
  · rw [all_2]; intro y hy; simp at hy; subst hy; decide
theorem fits_1 : fitsB 20 0 (batB [cA, cB]).length := by rw [len_1]; unfold fitsB hlf; omega

set_option maxRecDepth 100000 in
set_option maxHeartbeats 4000000 in
theorem awake_any (w : World) : Calls Try.prog 10 #[] w fun e w' => e = .returned (.bool true) ∧ Below w.heap.size w w' := by
  have HN := Lib.hid (new_mine w w 20 (Below.refl _ _))
  go_enter Try.func10, Try.ntmps10
  go_wp2_with fail
  refine HN.out.mono ?_
  rintro e1 w1 ⟨g, rfl, hm1, hb1, hg1⟩
  have hm1' : Mine w w1 g (newSt 20) := hm1
  have HO := Lib.hid (open_new hm1' (by omega))
  clear hm1 hm1' hb1 HN
  go_wp2_with (go_at_call 9; refine HO.out.mono ?_; rintro e2 w2 ⟨sb, cb, rfl, hx2, ho2, hsb⟩; have HX2 := Lib.hid hx2; clear hx2 ho2 HO)
  have hal3 : Below w2.heap.size w2 (w2.alloc (.cells #[.string ⟨#[97]⟩, .string ⟨#[49]⟩, .bool false, .string ⟨#[98]⟩, .string ⟨#[50]⟩, .bool false] 52)) := (Below.refl _ _).alloc (Nat.le_refl _) _
  have hh3 := HC.new w2 [cA, cB] #[.string ⟨#[97]⟩, .string ⟨#[49]⟩, .bool false, .string ⟨#[98]⟩, .string ⟨#[50]⟩, .bool false] rfl w2.heap.size 2 rfl rfl
  have HC3 := Lib.hid (Commit_up (HX2.out.below hal3) (newX_inv (N := 20) (by omega)) (by omega) (by omega) [cA, cB] sized_1 (.inl fits_1) _ _ _ hh3)
  clear hal3 hh3 HX2
  refine HC3.out.mono ?_
  rintro e3 w3 ⟨rfl, x3, a3, en3, cn3, hx3, hi3, hP3, _⟩
  have hP3' : x3.P = [cA, cB] := hP3.trans all_1
  have HX3 := Lib.hid hx3
  have HI3 := Lib.hid hi3
  have HP3 := Lib.hid hP3'
  clear hx3 hi3 hP3 hP3' HC3
  go_wp2_with fail
  have hal4 : Below w3.heap.size w3 (w3.alloc (.cells #[.string ⟨#[97]⟩, .string ⟨#[]⟩, .bool true] 52)) := (Below.refl _ _).alloc (Nat.le_refl _) _
  have hh4 := HC.new w3 [cAg] #[.string ⟨#[97]⟩, .string ⟨#[]⟩, .bool true] rfl w3.heap.size 1 rfl rfl
  have hfit4 : fitsB 20 en3 (batB [cAg]).length ∨ fitsB 20 0 (batB (allC x3.P [cAg])).length := by
    right
    rw [HP3.out, all_2]
    show fitsB 20 0 (batB [cB]).length
    rw [batB_length]
    unfold fitsB hlf
    exact ⟨by decide, by decide⟩
  have HC4 := Lib.hid (Commit_up (HX3.out.below hal4) HI3.out (by omega) (by omega) [cAg] (by rw [HP3.out]; exact sized_2) hfit4 _ _ _ hh4)
  clear hal4 hh4 hfit4 HX3 HI3
  refine HC4.out.mono ?_
  rintro e4 w4 ⟨rfl, x4, a4, en4, cn4, hx4, hi4, hP4, _⟩
  have hP4' : x4.P = [cB] := by rw [hP4, HP3.out, all_2]
  have HP4 := Lib.hid hP4'
  have hun := Under_any w w4 sb cb g x4 hx4 hi4.asc (by rw [hP4']; decide) ⟨#[]⟩
  have hge := fun W (hb : Below w4.heap.size w4 W) => Get_any w W sb cb g x4 (hx4.below hb) hi4.asc (by rw [hP4']; decide) ⟨#[97]⟩
  have hco := fun W (hb : Below w4.heap.size w4 W) => Count_any w W sb cb g x4 (hx4.below hb)
  rw [hP4'] at hun hge hco
  have e1 : undL [cB] (⟨#[]⟩ : ByteArray).data.toList = [cB] := und_2
  have e2 : valOf [cB] (⟨#[97]⟩ : ByteArray).data.toList = (⟨#[]⟩, false) := val_2
  rw [e1] at hun
  rw [e2] at hge
  have HUN := Lib.hid hun
  have HGE := Lib.hid hge
  have HCO := Lib.hid hco
  have HB4 := Lib.hid hx4.b
  clear hx4 hi4 hP4 hP4' HC4 HP3 hun hge hco e1 e2
  go_wp2_with fail
  refine HUN.out.mono ?_
  rintro e5 w5 ⟨A5, n5, c5, rfl, ho5, hb5⟩
  have hn5 : n5 = 1 := by have := (own_hc ho5).1.1; exact this.symm
  subst hn5
  obtain ⟨b5, o5, rfl, hbl5, k0, k1, k2⟩ := (own_hc ho5).1.elem 0 (by decide)
  have HB5 := Lib.hid hb5
  have HK := Lib.hid (And.intro k0 (And.intro k1 k2))
  clear ho5 k0 k1 k2 HUN hb5
  go_wp2_with fail
  refine (HGE.out w5 HB5.out).mono ?_
  rintro e6 w6 ⟨rfl, hb6⟩
  have HB6 := Lib.hid (HB5.out.trans (hb6.mono HB5.out.size))
  have k0 := (hb6.cell (p := ⟨b5, o5 + 0 * 3, none⟩) hbl5).trans HK.out.1
  have k1 := (hb6.cell (p := ⟨b5, o5 + 0 * 3 + 1, none⟩) hbl5).trans HK.out.2.1
  have k2 := (hb6.cell (p := ⟨b5, o5 + 0 * 3 + 2, none⟩) hbl5).trans HK.out.2.2
  simp only [Nat.zero_mul, Nat.add_zero] at k0 k1 k2
  change w6.cell? ⟨b5, o5, none⟩ = some (.string ⟨#[98]⟩) at k0
  change w6.cell? ⟨b5, o5 + 1, none⟩ = some (.string ⟨#[50]⟩) at k1
  change w6.cell? ⟨b5, o5 + 2, none⟩ = some (.bool false) at k2
  have HCO6 := Lib.hid (HCO.out w6 HB6.out)
  clear hb6 HGE HCO HK HB5
  go_wp2_with fail
  refine HCO6.out.mono ?_
  rintro e7 w7 ⟨rfl, rfl⟩
  go_wp2_with fail
  go_ret
  exact ⟨rfl, HB4.out.trans (HB6.out.mono HB4.out.size)⟩
end Go.Proofs.Ytbfhlleipeipbaa
