/-
  What is proved: contract of the document's With. Conditions: those in each statement.
-/
import Derived.Test.YtnmailhlncchmaaDoorXdm
import Derived.Test.YtnmailhlncchmaaDoorXge
namespace Go.Proofs.YtnmailhlncchmaaDoor
open Go.RowKit Go.Lib

/-- one more, laid behind a row of the call's own -/
theorem one_more {W : World} {B n c : Nat} {A : Option Addr} {out : List Vr} (h : OwR W B A n c out) (hB : B ≤ W.heap.size) (x : Vr) :
    HR (W.alloc (.cells #[.string x.nm, .int .i64 x.v.k, .int .i64 x.v.n, .string x.v.s] 42 (0, 0))) (some ⟨W.heap.size, 0, none⟩) 1 1 [x] ∧ OwR (W.alloc (.cells #[.string x.nm, .int .i64 x.v.k, .int .i64 x.v.n, .string x.v.s] 42 (0, 0))) B A n c out ∧ B ≤ (W.alloc (.cells #[.string x.nm, .int .i64 x.v.k, .int .i64 x.v.n, .string x.v.s] 42 (0, 0))).heap.size ∧ ∀ w, Below B w W → Below B w (W.alloc (.cells #[.string x.nm, .int .i64 x.v.k, .int .i64 x.v.n, .string x.v.s] 42 (0, 0))) :=
  ⟨HR.new W [x] #[.string x.nm, .int .i64 x.v.k, .int .i64 x.v.n, .string x.v.s] rfl 42 W.heap.size 1 rfl rfl, h.below ((Below.refl _ _).alloc (Nat.le_refl _) _), by simp; omega, fun w hb => hb.alloc hB _⟩
theorem goW_at {t : ByteArray} {v : Val} {laid : Bool} {out l : List Vr} {i : Nat} (h : i < l.length) (g e : Bool) (hg : (!laid && !(bl l[i].nm t)) = g) (he : (l[i].nm.toList == t.toList) = e) :
    goW t v laid out (l.drop i) = goW t v (laid || g) (if e then (if g then out ++ [⟨t, v⟩] else out) else (if g then out ++ [⟨t, v⟩] else out) ++ [l[i]]) (l.drop (i + 1)) := by
  rw [List.drop_eq_getElem_cons h]
  conv => lhs; unfold goW
  simp only [hg, he]
set_option maxHeartbeats 16000000 in
set_option maxRecDepth 100000 in
theorem dWith_any (w : World) (A : Option Addr) (n c : Nat) (l : List Vr) (t : ByteArray) (k m : Int) (s : ByteArray) (h : HR w A n c l) (hc0 : A = none → c = 0) (hn : n ≤ 1048576) :
    Calls Tryd.prog 25 #[.slice A n c, .string t, .agg #[.int .i64 k, .int .i64 m, .string s]] w (WPost w l t ⟨k, m, s⟩) := by
  obtain rfl : n = l.length := h.1.symm
  obtain ⟨W0, hW0⟩ : ∃ W0, W0 = w.alloc (.cells #[.int .i64 k, .int .i64 m, .string s] 23 (0, 0)) := ⟨_, rfl⟩
  have HB0 : Hid (Below w.heap.size w W0) := Lib.hid (by rw [hW0]; exact (Below.refl _ _).alloc (Nat.le_refl _) _)
  have HX0 : Hid (Bx 23 W0 w.heap.size #[.int .i64 k, .int .i64 m, .string s]) := Lib.hid (by rw [hW0]; exact Bx.new w _ _)
  have HH : Hid (HR W0 A l.length c l) := Lib.hid (h.below HB0.out)
  have HW0 := Lib.hid hW0
  have HV := Lib.hid (dVars_any W0 A l.length c l HH.out (by omega))
  have HN := Lib.hid (fun W => dName_any W t)
  clear h hW0
  cases hv : varsB l with
  | false =>
    rw [hv] at HV
    have HF : Hid ((varsB l && nameB t.data.toList) = false) := Lib.hid (by rw [hv]; rfl)
    clear hv HN HX0
    go_enter Tryd.func25, Tryd.ntmps25
    go_wp2_with (first
      | (go_at_call 22; rw [← HW0.out]; refine HV.out.mono ?_; rintro e w2 ⟨rfl, hb2⟩; have HB2 := Lib.hid (HB0.out.trans (hb2.mono HB0.out.size)); have HH2 := Lib.hid (HH.out.below hb2); clear hb2)
      | (at_builtin; refine wpList_append_vr rfl (.tmp 18) (.tmp 19) rfl w.heap.size (.slice none 0 0) 0 [] rfl (OwR.nil _ _) A l.length c l rfl HH2.out hc0 (by omega) HB2.out.size ?_; intro A1 c1 w1 how1 hgrow1; rw [Nat.zero_add] at *; have HO1 := Lib.hid how1; have HB1 := Lib.hid (HB2.out.grown hgrow1 HB2.out.size (fun k hk => by cases hk)); clear how1 hgrow1))
    go_ret
    exact ⟨l, A1, c1, .inl ⟨HF.out, rfl⟩, rfl, HO1.out, HB1.out⟩
  | true =>
    cases hnb : nameB t.data.toList with
    | false =>
      rw [hv] at HV
      rw [hnb] at HN
      have HF : Hid ((varsB l && nameB t.data.toList) = false) := Lib.hid (by rw [hv, hnb]; rfl)
      clear hv hnb HX0
      go_enter Tryd.func25, Tryd.ntmps25
      go_wp2_with (first
        | (go_at_call 22; rw [← HW0.out]; refine HV.out.mono ?_; rintro e w2 ⟨rfl, hb2⟩; have HB2 := Lib.hid (HB0.out.trans (hb2.mono HB0.out.size)); have HH2 := Lib.hid (HH.out.below hb2); clear hb2)
        | (go_at_call 15; refine (HN.out _).mono ?_; rintro e w3 ⟨rfl, rfl⟩)
        | (at_builtin; refine wpList_append_vr rfl (.tmp 18) (.tmp 19) rfl w.heap.size (.slice none 0 0) 0 [] rfl (OwR.nil _ _) A l.length c l rfl HH2.out hc0 (by omega) HB2.out.size ?_; intro A1 c1 w1 how1 hgrow1; rw [Nat.zero_add] at *; have HO1 := Lib.hid how1; have HB1 := Lib.hid (HB2.out.grown hgrow1 HB2.out.size (fun k hk => by cases hk)); clear how1 hgrow1))
      go_ret
      exact ⟨l, A1, c1, .inl ⟨HF.out, rfl⟩, rfl, HO1.out, HB1.out⟩
    | true =>
      rw [hv] at HV
      rw [hnb] at HN
      have HP := Lib.hid (vars_sorted hv)
      have HF : Hid ((varsB l && nameB t.data.toList) = true) := Lib.hid (by rw [hv, hnb]; rfl)
      clear hv hnb
      go_enter Tryd.func25, Tryd.ntmps25
      go_wp2_with (first
        | (go_at_call 22; rw [← HW0.out]; refine HV.out.mono ?_; rintro e w2 ⟨rfl, hb2⟩; have HB2 := Lib.hid (HB0.out.trans (hb2.mono HB0.out.size)); have HH2 := Lib.hid (HH.out.below hb2); have HX2 := Lib.hid (HX0.out.below hb2 HX0.out.lt); have HL2 := Lib.hid (Nat.lt_of_lt_of_le HX0.out.lt hb2.size); clear hb2)
        | (go_at_call 15; refine (HN.out _).mono ?_; rintro e w3 ⟨rfl, rfl⟩))
      have HW2 := Lib.hid (Below.refl w2.heap.size w2)
      have hlt2 := HL2.out
      go_loopg [7, 8, 9] l.length (fun kx v7 v8 v9 wr => ∃ (i : Nat) (A' : Option Addr) (m' c' : Nat) (out : List Vr) (laid : Bool), v7 = .slice A' m' c' ∧ v8 = .bool laid ∧ v9 = .int .i64 (i : Int) ∧ i ≤ l.length ∧ m' ≤ 2 * i ∧ l.length - i ≤ kx ∧ Hid (goW t ⟨k, m, s⟩ false [] l = goW t ⟨k, m, s⟩ laid out (l.drop i)) ∧ Hid (OwR wr w2.heap.size A' m' c' out) ∧ Hid (Below w2.heap.size w2 wr))
      case atStart => exact ⟨0, none, 0, 0, [], false, rfl, rfl, rfl, Nat.zero_le _, Nat.le_refl _, Nat.le_refl _, Lib.hid rfl, Lib.hid (OwR.nil _ _), HW2⟩
      case round =>
        clear HW2
        obtain ⟨i, A', m', c', out, laid, rfl, rfl, rfl, hi, hm', hkx, HI, HO, HB⟩ := hrel
        have B0 := Lib.hid (cell_in HB.out HL2.out (HX2.out.c (j := 0) rfl))
        have B1 := Lib.hid (cell_in HB.out HL2.out (HX2.out.c (j := 1) rfl))
        have B2 := Lib.hid (cell_in HB.out HL2.out (HX2.out.c (j := 2) rfl))
        by_cases he : i < l.length
        · obtain ⟨b, o, rfl, hlt, e0, e1, e2, e3⟩ := HH2.out.elem i he
          have E0 := Lib.hid e0
          have E1 := Lib.hid e1
          have E2 := Lib.hid e2
          have E3 := Lib.hid e3
          have HLw := Lib.hid hlt
          have D0 := Lib.hid (cell_in HB.out hlt e0)
          have D1 := Lib.hid (cell_in HB.out hlt e1)
          have D2 := Lib.hid (cell_in HB.out hlt e2)
          have D3 := Lib.hid (cell_in HB.out hlt e3)
          have hiz : (0 : Int) ≤ (i : Int) := by omega
          have hiz2 : (i : Int) < (l.length : Int) := by omega
          have HGA := Lib.hid (fun g e hg hq => goW_at (t := t) (v := ⟨k, m, s⟩) (laid := laid) (out := out) (l := l) (i := i) he g e hg hq)
          have HLE := Lib.hid (leq_not t l[i].nm)
          clear e0 e1 e2 e3 hlt
          generalize l[i] = x at *
          obtain ⟨nm, ⟨xk, xm, xs⟩⟩ := x
          simp only at D0 D1 D2 D3 E0 E1 E2 E3
          cases hq : (nm.toList == t.toList) with
          | true =>
            have hq2 : (nm.toList != t.toList) = false := by rw [bne, hq]; rfl
            cases laid with
            | true =>
              have HAT := Lib.hid (HGA.out false true (by rfl) hq)
              clear HGA HLE
              have HN : Hid (goW t ⟨k, m, s⟩ false [] l = goW t ⟨k, m, s⟩ true out (l.drop (i + 1))) := Lib.hid (HI.out.trans HAT.out)
              have d0 := D0.out
              have d1 := D1.out
              have d2 := D2.out
              have d3 := D3.out
              have b0 := B0.out
              have b1 := B1.out
              have b2 := B2.out
              go_wp2_with fail
              go_roundg (l.length - (i + 1))
              case measure => omega
              case rel => exact ⟨i + 1, A', m', c', out, true, rfl, rfl, by go_num, by omega, by omega, Nat.le_refl _, HN, HO, HB⟩
            | false =>
              cases hb : bl nm t with
              | true =>
                have HAT := Lib.hid (HGA.out false true (by rw [hb]; rfl) hq)
                have hle : (Op.bytesLess t.toList nm.toList || t.toList == nm.toList) = false := by rw [HLE.out, hb]; rfl
                clear HGA HLE hb
                have HN : Hid (goW t ⟨k, m, s⟩ false [] l = goW t ⟨k, m, s⟩ false out (l.drop (i + 1))) := Lib.hid (HI.out.trans HAT.out)
                have d0 := D0.out
                have d1 := D1.out
                have d2 := D2.out
                have d3 := D3.out
                have b0 := B0.out
                have b1 := B1.out
                have b2 := B2.out
                go_wp2_with fail
                go_roundg (l.length - (i + 1))
                case measure => omega
                case rel => exact ⟨i + 1, A', m', c', out, false, rfl, rfl, by go_num, by omega, by omega, Nat.le_refl _, HN, HO, HB⟩
              | false =>
                have HAT := Lib.hid (HGA.out true true (by rw [hb]; rfl) hq)
                have hle : (Op.bytesLess t.toList nm.toList || t.toList == nm.toList) = true := by rw [HLE.out, hb]; rfl
                clear HGA HLE hb
                have HN : Hid (goW t ⟨k, m, s⟩ false [] l = goW t ⟨k, m, s⟩ true (out ++ [(Vr.mk t (Val.mk k m s))]) (l.drop (i + 1))) := Lib.hid (HI.out.trans HAT.out)
                have d0 := D0.out
                have d1 := D1.out
                have d2 := D2.out
                have d3 := D3.out
                have b0 := B0.out
                have b1 := B1.out
                have b2 := B2.out
                go_wp2_with (first | (at_builtin; obtain ⟨hx1, ho1, hs1, hb1⟩ := one_more HO.out HB.out.size (Vr.mk t (Val.mk k m s)); have hb1 := hb1 _ HB.out; refine wpList_append_vr rfl (.tmp 38) (.tmp 42) rfl w2.heap.size (.slice A' m' c') m' out rfl ho1 (some ⟨wr.heap.size, 0, none⟩) 1 1 [(Vr.mk t (Val.mk k m s))] rfl hx1 (fun e => by cases e) (by omega) hs1 ?_; intro A5 c5 w5 how hgr; have HO5 := Lib.hid how; have HB5 := Lib.hid (hb1.grown hgr hs1 (fun k hk => (World.ownsRow.lt HO.out k hk).1)); clear hx1 ho1 hs1 hb1 how hgr; have d0' := cell_in HB5.out HLw.out E0.out; have d1' := cell_in HB5.out HLw.out E1.out; have d2' := cell_in HB5.out HLw.out E2.out; have d3' := cell_in HB5.out HLw.out E3.out))
                go_roundg (l.length - (i + 1))
                case measure => omega
                case rel => exact ⟨i + 1, A5, (m' + 1), c5, out ++ [(Vr.mk t (Val.mk k m s))], true, rfl, rfl, by go_num, by omega, by omega, Nat.le_refl _, HN, HO5, HB5⟩
          | false =>
            have hq2 : (nm.toList != t.toList) = true := by rw [bne, hq]; rfl
            cases laid with
            | true =>
              have HAT := Lib.hid (HGA.out false false (by rfl) hq)
              clear HGA HLE
              have HN : Hid (goW t ⟨k, m, s⟩ false [] l = goW t ⟨k, m, s⟩ true (out ++ [(Vr.mk nm (Val.mk xk xm xs))]) (l.drop (i + 1))) := Lib.hid (HI.out.trans HAT.out)
              have d0 := D0.out
              have d1 := D1.out
              have d2 := D2.out
              have d3 := D3.out
              have b0 := B0.out
              have b1 := B1.out
              have b2 := B2.out
              go_wp2_with (first | (at_builtin; obtain ⟨hx1, ho1, hs1, hb1⟩ := one_more HO.out HB.out.size (Vr.mk nm (Val.mk xk xm xs)); have hb1 := hb1 _ HB.out; refine wpList_append_vr rfl (.tmp 51) (.tmp 56) rfl w2.heap.size (.slice A' m' c') m' out rfl ho1 (some ⟨wr.heap.size, 0, none⟩) 1 1 [(Vr.mk nm (Val.mk xk xm xs))] rfl hx1 (fun e => by cases e) (by omega) hs1 ?_; intro A6 c6 w6 how hgr; have HO6 := Lib.hid how; have HB6 := Lib.hid (hb1.grown hgr hs1 (fun k hk => (World.ownsRow.lt HO.out k hk).1)); clear hx1 ho1 hs1 hb1 how hgr))
              go_roundg (l.length - (i + 1))
              case measure => omega
              case rel => exact ⟨i + 1, A6, (m' + 1), c6, (out) ++ [(Vr.mk nm (Val.mk xk xm xs))], true, rfl, rfl, by go_num, by omega, by omega, Nat.le_refl _, HN, HO6, HB6⟩
            | false =>
              cases hb : bl nm t with
              | true =>
                have HAT := Lib.hid (HGA.out false false (by rw [hb]; rfl) hq)
                have hle : (Op.bytesLess t.toList nm.toList || t.toList == nm.toList) = false := by rw [HLE.out, hb]; rfl
                clear HGA HLE hb
                have HN : Hid (goW t ⟨k, m, s⟩ false [] l = goW t ⟨k, m, s⟩ false (out ++ [(Vr.mk nm (Val.mk xk xm xs))]) (l.drop (i + 1))) := Lib.hid (HI.out.trans HAT.out)
                have d0 := D0.out
                have d1 := D1.out
                have d2 := D2.out
                have d3 := D3.out
                have b0 := B0.out
                have b1 := B1.out
                have b2 := B2.out
                go_wp2_with (first | (at_builtin; obtain ⟨hx1, ho1, hs1, hb1⟩ := one_more HO.out HB.out.size (Vr.mk nm (Val.mk xk xm xs)); have hb1 := hb1 _ HB.out; refine wpList_append_vr rfl (.tmp 51) (.tmp 56) rfl w2.heap.size (.slice A' m' c') m' out rfl ho1 (some ⟨wr.heap.size, 0, none⟩) 1 1 [(Vr.mk nm (Val.mk xk xm xs))] rfl hx1 (fun e => by cases e) (by omega) hs1 ?_; intro A6 c6 w6 how hgr; have HO6 := Lib.hid how; have HB6 := Lib.hid (hb1.grown hgr hs1 (fun k hk => (World.ownsRow.lt HO.out k hk).1)); clear hx1 ho1 hs1 hb1 how hgr))
                go_roundg (l.length - (i + 1))
                case measure => omega
                case rel => exact ⟨i + 1, A6, (m' + 1), c6, (out) ++ [(Vr.mk nm (Val.mk xk xm xs))], false, rfl, rfl, by go_num, by omega, by omega, Nat.le_refl _, HN, HO6, HB6⟩
              | false =>
                have HAT := Lib.hid (HGA.out true false (by rw [hb]; rfl) hq)
                have hle : (Op.bytesLess t.toList nm.toList || t.toList == nm.toList) = true := by rw [HLE.out, hb]; rfl
                clear HGA HLE hb
                have HN : Hid (goW t ⟨k, m, s⟩ false [] l = goW t ⟨k, m, s⟩ true ((out ++ [(Vr.mk t (Val.mk k m s))]) ++ [(Vr.mk nm (Val.mk xk xm xs))]) (l.drop (i + 1))) := Lib.hid (HI.out.trans HAT.out)
                have d0 := D0.out
                have d1 := D1.out
                have d2 := D2.out
                have d3 := D3.out
                have b0 := B0.out
                have b1 := B1.out
                have b2 := B2.out
                go_wp2_with (first | (at_builtin; obtain ⟨hx1, ho1, hs1, hb1⟩ := one_more HO.out HB.out.size (Vr.mk t (Val.mk k m s)); have hb1 := hb1 _ HB.out; refine wpList_append_vr rfl (.tmp 38) (.tmp 42) rfl w2.heap.size (.slice A' m' c') m' out rfl ho1 (some ⟨wr.heap.size, 0, none⟩) 1 1 [(Vr.mk t (Val.mk k m s))] rfl hx1 (fun e => by cases e) (by omega) hs1 ?_; intro A5 c5 w5 how hgr; have HO5 := Lib.hid how; have HB5 := Lib.hid (hb1.grown hgr hs1 (fun k hk => (World.ownsRow.lt HO.out k hk).1)); clear hx1 ho1 hs1 hb1 how hgr; have d0' := cell_in HB5.out HLw.out E0.out; have d1' := cell_in HB5.out HLw.out E1.out; have d2' := cell_in HB5.out HLw.out E2.out; have d3' := cell_in HB5.out HLw.out E3.out) | (at_builtin; obtain ⟨hx1, ho1, hs1, hb1⟩ := one_more HO5.out HB5.out.size (Vr.mk nm (Val.mk xk xm xs)); have hb1 := hb1 _ HB5.out; refine wpList_append_vr rfl (.tmp 51) (.tmp 56) rfl w2.heap.size (.slice A5 (m' + 1) c5) (m' + 1) (out ++ [(Vr.mk t (Val.mk k m s))]) rfl ho1 (some ⟨w5.heap.size, 0, none⟩) 1 1 [(Vr.mk nm (Val.mk xk xm xs))] rfl hx1 (fun e => by cases e) (by omega) hs1 ?_; intro A6 c6 w6 how hgr; have HO6 := Lib.hid how; have HB6 := Lib.hid (hb1.grown hgr hs1 (fun k hk => (World.ownsRow.lt HO5.out k hk).1)); clear hx1 ho1 hs1 hb1 how hgr))
                go_roundg (l.length - (i + 1))
                case measure => omega
                case rel => exact ⟨i + 1, A6, ((m' + 1) + 1), c6, (out ++ [(Vr.mk t (Val.mk k m s))]) ++ [(Vr.mk nm (Val.mk xk xm xs))], true, rfl, rfl, by go_num, by omega, by omega, Nat.le_refl _, HN, HO6, HB6⟩
        · have HE : Hid (goW t ⟨k, m, s⟩ false [] l = if laid then out else out ++ [⟨t, ⟨k, m, s⟩⟩]) := Lib.hid (by rw [HI.out, List.drop_of_length_le (by omega)]; rfl)
          obtain ⟨p, hp⟩ := spot_ex t l HP.out
          have HR := Lib.hid (show WithIs l t ⟨k, m, s⟩ (goW t ⟨k, m, s⟩ false [] l) from .inr ⟨HF.out, p, hp, by rw [goW_put t ⟨k, m, s⟩ l [] p HP.out hp, List.nil_append]⟩)
          clear hp
          rw [HE.out] at HR
          have b0 := B0.out
          have b1 := B1.out
          have b2 := B2.out
          cases laid with
          | true =>
            have hol := HO.out.hr.1.1
            go_wp2_with fail
            go_ret
            subst hol
            exact ⟨out, A', c', HR.out, rfl, own_mono HO.out (by omega), HB2.out.trans (HB.out.mono (by omega))⟩
          | false =>
            have hol := HO.out.hr.1.1
            go_wp2_with (at_builtin; obtain ⟨hx1, ho1, hs1, hb1⟩ := one_more HO.out HB.out.size (Vr.mk t (Val.mk k m s)); have hb1 := hb1 _ HB.out; refine wpList_append_vr rfl (.tmp 60) (.tmp 64) rfl w2.heap.size (.slice A' m' c') m' out rfl ho1 (some ⟨wr.heap.size, 0, none⟩) 1 1 [(Vr.mk t (Val.mk k m s))] rfl hx1 (fun e => by cases e) (by omega) hs1 ?_; intro A5 c5 w5 how hgr; have HO5 := Lib.hid how; have HB5 := Lib.hid (hb1.grown hgr hs1 (fun k hk => (World.ownsRow.lt HO.out k hk).1)); clear hx1 ho1 hs1 hb1 how hgr)
            go_ret
            subst hol
            exact ⟨out ++ [(Vr.mk t (Val.mk k m s))], A5, c5, HR.out, by rw [List.length_append]; rfl, by rw [List.length_append]; exact own_mono HO5.out (by omega), HB2.out.trans (HB5.out.mono (by omega))⟩
end Go.Proofs.YtnmailhlncchmaaDoor
