/-
  What is proved: contract of value's With, given that of what it inserts. Conditions: those in each statement.
-/
import Derived.Test.YtnmailhlncchmaaDoorXg
import Derived.Test.YtnmailhlncchmaaDoorXr
namespace Go.Proofs.YtnmailhlncchmaaDoor
open Go.RowKit

theorem vsF_sorted : ∀ (l : List Vr) (p : Option ByteArray), vsF p l = true → (∀ q, p = some q → ∀ x ∈ l, bl q x.nm = true) ∧ l.Pairwise (fun x y => bl x.nm y.nm = true)
  | [], _, _ => ⟨(fun _ _ _ h => by cases h), .nil⟩
  | x :: l, p, h => by
    simp only [vsF, Bool.and_eq_true] at h
    obtain ⟨_, _, h1, h2⟩ := h
    obtain ⟨h3, h4⟩ := vsF_sorted l (some x.nm) h2
    refine ⟨fun q hq y hy => ?_, .cons (fun y hy => h3 x.nm rfl y hy) h4⟩
    subst hq
    rcases List.mem_cons.1 hy with rfl | hy
    · exact h1
    · exact bl_trans h1 (h3 x.nm rfl y hy)
theorem vars_sorted {l : List Vr} (h : varsB l = true) : l.Pairwise (fun x y => bl x.nm y.nm = true) := by
  unfold varsB at h
  rw [Bool.and_eq_true] at h
  exact (vsF_sorted l none h.2).2
theorem vars_mono {l : List Vr} (h : varsB l = true) (t : ByteArray) : Mono l t := fun a b ha hb hab hl => by
  rcases Nat.lt_or_eq_of_le hab with h1 | rfl
  · exact bl_trans (List.pairwise_iff_getElem.1 (vars_sorted h) a b ha hb h1) hl
  · exact hl
theorem spot_ex (t : ByteArray) : ∀ (l : List Vr), l.Pairwise (fun x y => bl x.nm y.nm = true) → ∃ p, Spot l t p
  | [], _ => ⟨0, Nat.le_refl _, fun i h => absurd h (Nat.not_lt_zero _), fun i h => absurd h (Nat.not_lt_zero _)⟩
  | x :: l, h => by
    cases hx : bl x.nm t with
    | true =>
      obtain ⟨p, h1, h2, h3⟩ := spot_ex t l (List.pairwise_cons.1 h).2
      refine ⟨p + 1, by simpa using h1, fun i hi hp => ?_, fun i hi hp => ?_⟩
      · cases i with
        | zero => exact hx
        | succ i => exact h2 i (by simpa using hi) (by omega)
      · cases i with
        | zero => omega
        | succ i => exact h3 i (by simpa using hi) (by omega)
    | false =>
      refine ⟨0, Nat.zero_le _, fun i hi hp => absurd hp (Nat.not_lt_zero _), fun i hi _ => ?_⟩
      cases i with
      | zero => exact hx
      | succ i =>
        have hi' : i < l.length := by simpa using hi
        show bl l[i].nm t = false
        cases hb : bl l[i].nm t with
        | false => rfl
        | true =>
          have := bl_trans ((List.pairwise_cons.1 h).1 l[i] (List.getElem_mem _)) hb
          rw [hx] at this; cases this
theorem spot_one {l : List Vr} {t : ByteArray} {p q : Nat} (h : Spot l t p) (k : Spot l t q) : p = q := by
  obtain ⟨h1, h2, h3⟩ := h
  obtain ⟨k1, k2, k3⟩ := k
  rcases Nat.lt_trichotomy p q with hpq | hpq | hpq
  · have a := k2 p (by omega) hpq
    have b := h3 p (by omega) (Nat.le_refl _)
    rw [a] at b; cases b
  · exact hpq
  · have a := h2 q (by omega) hpq
    have b := k3 q (by omega) (Nat.le_refl _)
    rw [a] at b; cases b
theorem search_at (w : World) (A : Option Addr) (n c : Nat) (l : List Vr) (t : ByteArray) (p : Nat) (f : Bool) (hp : Spot l t p) (hf : foundB l t p = f) (h : HR w A n c l) (hn : n ≤ 1048576) (hm : Mono l t) :
    Calls Tryd.prog 38 #[.slice A n c, .string t, .func (.func 39) #[] #[]] w fun e w' => e = .returned (.tuple #[.int .i64 (p : Int), .bool f]) ∧ Below w.heap.size w w' := by
  refine (search_any w A n c l t h hn hm).mono ?_
  rintro e w' ⟨q, hq, rfl, hb⟩
  obtain rfl := spot_one hp hq
  rw [hf]
  exact ⟨rfl, hb⟩
def putL (l : List Vr) (p : Nat) (t : ByteArray) (v : Val) : List Vr := if foundB l t p then l.set p ⟨t, v⟩ else l.take p ++ ⟨t, v⟩ :: l.drop p
/-- what With answers -/
def WithIs (l : List Vr) (t : ByteArray) (v : Val) (r : List Vr) : Prop := ((varsB l && nameB t.data.toList) = false ∧ r = l) ∨ ((varsB l && nameB t.data.toList) = true ∧ ∃ p, Spot l t p ∧ r = putL l p t v)
theorem splice_one (x y : List Value) (o : Nat) (vs : List Value) (h : x.length ≤ o) : splice (x ++ y) o vs = x ++ splice y (o - x.length) vs := by
  unfold splice
  rw [List.take_append, List.take_of_length_le h, List.drop_append, List.drop_of_length_le (by omega), List.nil_append, show o + vs.length - x.length = o - x.length + vs.length by omega]
  simp
theorem set_rw (k m : Int) (s : ByteArray) : ∀ (l : List Vr) (p : Nat) (h : p < l.length), splice (rwV l) (p * 4 + 1) [.int .i64 k, .int .i64 m, .string s] = rwV (l.set p ⟨l[p].nm, ⟨k, m, s⟩⟩)
  | [], p, h => by simp at h
  | x :: l, 0, h => by simp [splice, rwV_cons, encR]
  | x :: l, p + 1, h => by
    rw [rwV_cons, splice_one _ _ _ _ (by show 4 ≤ _; omega), show (p + 1) * 4 + 1 - (encR x).length = p * 4 + 1 by show (p + 1) * 4 + 1 - 4 = _; omega, set_rw k m s l p (by simpa using h)]
    rfl
theorem own_mono {w : World} {B B' : Nat} {e : TypeId} {z : Nat} {v : Value} {n : Nat} {xs : List Value} (h : w.ownsRow B' e z v n xs) (hb : B ≤ B') : w.ownsRow B e z v n xs := by
  refine ⟨h.1, ?_⟩
  rcases h.2 with hn | ⟨g, cap, cur, hv, hg, r⟩
  · exact .inl hn
  · exact .inr ⟨g, cap, cur, hv, Nat.le_trans hb hg, r⟩
theorem own_re {w : World} {e : TypeId} {z g n cap B : Nat} {xs : List Value} (h : w.ownsRow 0 e z (.slice (some ⟨g, 0, none⟩) n cap) n xs) (hB : B ≤ g) : w.ownsRow B e z (.slice (some ⟨g, 0, none⟩) n cap) n xs := by
  obtain ⟨cur, hg, h1, h2, h3, h4⟩ := own_block h
  exact ⟨h.1, .inr ⟨g, cap, cur, rfl, hB, hg, h1, h2, h3, h4⟩⟩
theorem own_un {w : World} {e : TypeId} {z n B : Nat} {v : Value} {xs : List Value} (h : w.ownsRow B e z v n xs) : w.ownsRow 0 e z v n xs := by
  refine ⟨h.1, ?_⟩
  rcases h.2 with hn | ⟨g, cap, cur, rfl, hb, r⟩
  · exact .inl hn
  · exact .inr ⟨g, cap, cur, rfl, Nat.zero_le _, r⟩
/-- one value changed -/
theorem OwR.setV {w : World} {B g n c : Nat} {l : List Vr} (h : OwR w B (some ⟨g, 0, none⟩) n c l) (hB : B ≤ g) (p : Nat) (hp : p < l.length) (k m : Int) (s : ByteArray) :
    OwR (((w.setCell ⟨g, p * 4 + 1, none⟩ (.int .i64 k)).setCell ⟨g, p * 4 + 2, none⟩ (.int .i64 m)).setCell ⟨g, p * 4 + 3, none⟩ (.string s)) B (some ⟨g, 0, none⟩) n c (l.set p ⟨l[p].nm, ⟨k, m, s⟩⟩) := by
  have hn : l.length = n := h.hr.1.1
  have h2 := own_setCells (own_un h) (p * 4 + 1) [.int .i64 k, .int .i64 m, .string s] (by simp; omega)
  rw [set_rw k m s l p hp] at h2
  exact own_re h2 hB
theorem OwR.place {w : World} {B n c : Nat} {A : Option Addr} {l : List Vr} (h : OwR w B A n c l) (h0 : 0 < l.length) : ∃ g, A = some ⟨g, 0, none⟩ ∧ B ≤ g ∧ g < w.heap.size ∧ ∀ j, w.frozen? ⟨g, j, none⟩ = false := by
  have hl : l.length = n := h.hr.1.1
  rcases h.2 with ⟨hv, h1⟩ | ⟨g, cap, cur, hv, hb, hg, _⟩
  · omega
  · injection hv with h1 h2 h3
    subst h1 h3
    exact ⟨g, rfl, hb, (Array.getElem?_eq_some_iff.1 hg).1, fun j => by simp [World.frozen?, hg]⟩
theorem own_cells {w : World} {B g n c : Nat} {l : List Vr} (h : OwR w B (some ⟨g, 0, none⟩) n c l) (p : Nat) (hp : p < l.length) :
    w.cell? ⟨g, p * 4 + 1, none⟩ = some (.int .i64 l[p].v.k) ∧ w.cell? ⟨g, p * 4 + 2, none⟩ = some (.int .i64 l[p].v.n) ∧ w.cell? ⟨g, p * 4 + 3, none⟩ = some (.string l[p].v.s) := by
  obtain ⟨b, o, e, _, _, h1, h2, h3⟩ := h.hr.1.elem p hp
  cases e
  rw [Nat.zero_add] at h1 h2 h3
  exact ⟨h1, h2, h3⟩
theorem below_four {w W : World} {g B : Nat} (h : Below B w W) (hb : B ≤ g) (p : Nat) (v0 v1 v2 : Value) : Below B w (((W.setCell ⟨g, p * 4 + 1, none⟩ v0).setCell ⟨g, p * 4 + 2, none⟩ v1).setCell ⟨g, p * 4 + 3, none⟩ v2) :=
  ((h.setCell (p := ⟨g, p * 4 + 1, none⟩) hb v0).setCell (p := ⟨g, p * 4 + 2, none⟩) hb v1).setCell (p := ⟨g, p * 4 + 3, none⟩) hb v2
/-- what With leaves -/
def WPost (w : World) (l : List Vr) (t : ByteArray) (v : Val) (e : Ending) (w' : World) : Prop := ∃ r A c, WithIs l t v r ∧ e = .returned (.slice A r.length c) ∧ OwR w' w.heap.size A r.length c r ∧ Below w.heap.size w w'
set_option maxHeartbeats 16000000 in
set_option maxRecDepth 100000 in
theorem with_core (w : World) (A : Option Addr) (n c : Nat) (l : List Vr) (t : ByteArray) (k m : Int) (s : ByteArray) (h : HR w A n c l) (hc0 : A = none → c = 0) (hn : n ≤ 1048576)
    (hins : ∀ p, varsB l = true → Spot l t p → foundB l t p = false → Insertable l p ⟨t, ⟨k, m, s⟩⟩) :
    Calls Tryd.prog 24 #[.slice A n c, .string t, .agg #[.int .i64 k, .int .i64 m, .string s]] w (WPost w l t ⟨k, m, s⟩) := by
  have hln := h.1
  obtain ⟨W0, hW0⟩ : ∃ W0, W0 = w.alloc (.cells #[.int .i64 k, .int .i64 m, .string s] 23 (0, 0)) := ⟨_, rfl⟩
  have HB0 : Hid (Below w.heap.size w W0) := Lib.hid (by rw [hW0]; exact (Below.refl _ _).alloc (Nat.le_refl _) _)
  have HSZ : Hid (W0.heap.size = w.heap.size + 1) := Lib.hid (by rw [hW0]; simp)
  have C0 : Hid (W0.cell? ⟨w.heap.size, 0, none⟩ = some (.int .i64 k)) := Lib.hid (by rw [hW0]; exact box_cell (Below.refl _ _) 0 rfl)
  have C1 : Hid (W0.cell? ⟨w.heap.size, 1, none⟩ = some (.int .i64 m)) := Lib.hid (by rw [hW0]; exact box_cell (Below.refl _ _) 1 rfl)
  have C2 : Hid (W0.cell? ⟨w.heap.size, 2, none⟩ = some (.string s)) := Lib.hid (by rw [hW0]; exact box_cell (Below.refl _ _) 2 rfl)
  have HCL := Lib.hid (clone_any W0 A n c l (h.below HB0.out) hc0 (by omega))
  rw [hW0] at HCL
  have HH := Lib.hid h
  have HV := Lib.hid (fun W hW => vars_any W A n c l hW)
  have HNM := Lib.hid (fun W => name_any W t)
  have HW0 := Lib.hid hW0
  have HLN := Lib.hid hln
  clear h hc0 hW0 hln
  cases hv : varsB l with
  | false =>
    rw [hv] at HV
    have HWI : Hid (WithIs l t ⟨k, m, s⟩ l) := Lib.hid (.inl ⟨by rw [hv]; rfl, rfl⟩)
    clear hv hins
    go_enter Tryd.func24, Tryd.ntmps24
    go_wp2_with (first
      | (go_at_call 37; refine HCL.out.mono ?_; rintro e w2 ⟨A2, n2, c2, rfl, ho2, hb2⟩; rw [← HW0.out] at ho2 hb2; obtain rfl : n = n2 := HLN.out.symm.trans ho2.hr.1.1; have HO2 := Lib.hid ho2; have HB2 := Lib.hid hb2; clear ho2 hb2)
      | (go_at_call 21; refine (HV.out _ (HH.out.below (HB0.out.trans (HB2.out.mono HB0.out.size)))).mono ?_; rintro e w3 ⟨rfl, hb3⟩; have HO3 := Lib.hid (HO2.out.below hb3); have HB3 := Lib.hid (HB2.out.trans (hb3.mono HB2.out.size)); clear hb3))
    go_ret
    exact ⟨l, A2, c2, HWI.out, by rw [HLN.out]; rfl, by rw [HLN.out]; exact own_mono HO3.out HB0.out.size, HB0.out.trans (HB3.out.mono HB0.out.size)⟩
  | true =>
    rw [hv] at HV
    cases hnm : nameB t.data.toList with
    | false =>
      rw [hnm] at HNM
      have HWI : Hid (WithIs l t ⟨k, m, s⟩ l) := Lib.hid (.inl ⟨by rw [hv, hnm]; rfl, rfl⟩)
      clear hv hnm hins
      go_enter Tryd.func24, Tryd.ntmps24
      go_wp2_with (first
        | (go_at_call 37; refine HCL.out.mono ?_; rintro e w2 ⟨A2, n2, c2, rfl, ho2, hb2⟩; rw [← HW0.out] at ho2 hb2; obtain rfl : n = n2 := HLN.out.symm.trans ho2.hr.1.1; have HO2 := Lib.hid ho2; have HB2 := Lib.hid hb2; clear ho2 hb2)
        | (go_at_call 21; refine (HV.out _ (HH.out.below (HB0.out.trans (HB2.out.mono HB0.out.size)))).mono ?_; rintro e w3 ⟨rfl, hb3⟩; have HO3 := Lib.hid (HO2.out.below hb3); have HB3 := Lib.hid (HB2.out.trans (hb3.mono HB2.out.size)); clear hb3)
        | (go_at_call 14; refine (HNM.out _).mono ?_; rintro e w4 ⟨rfl, rfl⟩))
      go_ret
      exact ⟨l, A2, c2, HWI.out, by rw [HLN.out]; rfl, by rw [HLN.out]; exact own_mono HO3.out HB0.out.size, HB0.out.trans (HB3.out.mono HB0.out.size)⟩
    | true =>
      rw [hnm] at HNM
      have HWI : Hid (∀ p, Spot l t p → WithIs l t ⟨k, m, s⟩ (putL l p t ⟨k, m, s⟩)) := Lib.hid (fun p hp => .inr ⟨by rw [hv, hnm]; rfl, p, hp, rfl⟩)
      have HMO := Lib.hid (vars_mono hv t)
      have HINS := Lib.hid (fun p => hins p hv)
      obtain ⟨p, hp⟩ := spot_ex t l (vars_sorted hv)
      have HP := Lib.hid hp
      clear hv hnm hins hp
      cases hf : foundB l t p with
      | false =>
        have HF := Lib.hid hf
        have HINS : Hid (∀ (W : World) (B : Nat) (A : Option Addr) (c : Nat), OwR W B A n c l → B ≤ W.heap.size → Calls Tryd.prog 40 #[.slice A n c, .int .i64 (p : Int), .slice (some ⟨W.heap.size, 0, none⟩) 1 1] (W.alloc (.cells #[.string t, .int .i64 k, .int .i64 m, .string s] 42 (0, 0))) (InsPost W B l p ⟨t, ⟨k, m, s⟩⟩)) := Lib.hid (by
          have := HINS.out p HP.out hf
          unfold Insertable at this
          rw [HLN.out] at this
          exact this)
        have HR6 : Hid ((l.take p ++ ⟨t, ⟨k, m, s⟩⟩ :: l.drop p).length = l.length + 1) := Lib.hid (by have := HP.out.1; simp; omega)
        have HPU : Hid (putL l p t ⟨k, m, s⟩ = l.take p ++ ⟨t, ⟨k, m, s⟩⟩ :: l.drop p) := Lib.hid (by unfold putL; rw [hf]; rfl)
        clear hf
        go_enter Tryd.func24, Tryd.ntmps24
        go_wp2_with (first
          | (go_at_call 37; refine HCL.out.mono ?_; rintro e w2 ⟨A2, n2, c2, rfl, ho2, hb2⟩; rw [← HW0.out] at ho2 hb2; obtain rfl : n = n2 := HLN.out.symm.trans ho2.hr.1.1; have HO2 := Lib.hid ho2; have HB2 := Lib.hid hb2; clear ho2 hb2)
          | (go_at_call 21; refine (HV.out _ (HH.out.below (HB0.out.trans (HB2.out.mono HB0.out.size)))).mono ?_; rintro e w3 ⟨rfl, hb3⟩; have HO3 := Lib.hid (HO2.out.below hb3); have HB3 := Lib.hid (HB2.out.trans (hb3.mono HB2.out.size)); clear hb3)
          | (go_at_call 14; refine (HNM.out _).mono ?_; rintro e w4 ⟨rfl, rfl⟩)
          | (go_at_call 38; refine (search_at _ A2 n c2 l t p _ HP.out HF.out HO3.out.hr.1 hn HMO.out).mono ?_; rintro e w5 ⟨rfl, hb5⟩; have HO5 := Lib.hid (HO3.out.below hb5); have HB5 := Lib.hid (HB3.out.trans (hb5.mono HB3.out.size)); have c0 := cell_in HB5.out (by have := HSZ.out; omega) C0.out; have c1 := cell_in HB5.out (by have := HSZ.out; omega) C1.out; have c2' := cell_in HB5.out (by have := HSZ.out; omega) C2.out; clear hb5)
          | (go_at_call 40; refine (HINS.out w5 W0.heap.size A2 c2 HO5.out HB5.out.size).mono ?_; rintro e w6 ⟨A6, c6, rfl, ho6, hb6⟩; have HO6 := Lib.hid ho6; have HB6 := Lib.hid (HB5.out.trans hb6); clear ho6 hb6))
        go_ret
        refine ⟨_, A6, c6, HWI.out p HP.out, ?_, ?_, HB0.out.trans (HB6.out.mono HB0.out.size)⟩
        · rw [HPU.out, HR6.out]; rfl
        · rw [HPU.out, HR6.out]; exact own_mono HO6.out HB0.out.size
      | true =>
        have HF := Lib.hid hf
        have hpl : p < l.length := by
          unfold foundB at hf
          cases hx : l[p]? with
          | none => rw [hx] at hf; cases hf
          | some x => exact (List.getElem?_eq_some_iff.1 hx).1
        have hnt : l[p].nm = t := by
          unfold foundB at hf
          rw [List.getElem?_eq_getElem hpl] at hf
          exact of_decide_eq_true hf
        have hpn : p < n := by have := HLN.out; omega
        have HPU : Hid (∀ h : p < l.length, putL l p t ⟨k, m, s⟩ = l.set p ⟨l[p].nm, ⟨k, m, s⟩⟩) := Lib.hid (fun h => by unfold putL; rw [hf, hnt]; rfl)
        have HSL : Hid (∀ h : p < l.length, (l.set p ⟨l[p].nm, ⟨k, m, s⟩⟩).length = n) := Lib.hid (fun h => by rw [List.length_set]; exact HLN.out)
        have HPL := Lib.hid hpl
        clear hf hpl hnt HINS
        go_enter Tryd.func24, Tryd.ntmps24
        go_wp2_with (first
          | (go_at_call 37; refine HCL.out.mono ?_; rintro e w2 ⟨A2, n2, c2, rfl, ho2, hb2⟩; rw [← HW0.out] at ho2 hb2; obtain rfl : n = n2 := HLN.out.symm.trans ho2.hr.1.1; have HO2 := Lib.hid ho2; have HB2 := Lib.hid hb2; clear ho2 hb2)
          | (go_at_call 21; refine (HV.out _ (HH.out.below (HB0.out.trans (HB2.out.mono HB0.out.size)))).mono ?_; rintro e w3 ⟨rfl, hb3⟩; have HO3 := Lib.hid (HO2.out.below hb3); have HB3 := Lib.hid (HB2.out.trans (hb3.mono HB2.out.size)); clear hb3)
          | (go_at_call 14; refine (HNM.out _).mono ?_; rintro e w4 ⟨rfl, rfl⟩)
          | (go_at_call 38; refine (search_at _ A2 n c2 l t p _ HP.out HF.out HO3.out.hr.1 hn HMO.out).mono ?_; rintro e w5 ⟨rfl, hb5⟩; have ho5 := HO3.out.below hb5; have HB5 := Lib.hid (HB3.out.trans (hb5.mono HB3.out.size)); have c0 := cell_in HB5.out (by have := HSZ.out; omega) C0.out; have c1 := cell_in HB5.out (by have := HSZ.out; omega) C1.out; have c2' := cell_in HB5.out (by have := HSZ.out; omega) C2.out; obtain ⟨g, rfl, hg1, hg2, hg3⟩ := ho5.place (by have := HPL.out; omega); have k0 := own_cells ho5 p HPL.out; have k1 := k0.1; have k2 := k0.2.1; have k3 := k0.2.2; clear k0; have f1 := hg3 (p * 4 + 1); have f2 := hg3 (p * 4 + 2); have f3 := hg3 (p * 4 + 3); have HO6 := Lib.hid (OwR.setV ho5 hg1 p HPL.out k m s); have HB6 := Lib.hid (below_four HB5.out hg1 p (.int .i64 k) (.int .i64 m) (.string s)); clear hb5 ho5 hg1 hg2 hg3))
        go_ret
        exact ⟨_, some ⟨g, 0, none⟩, c2, HWI.out p HP.out, by rw [HPU.out HPL.out, HSL.out HPL.out]; rfl, by rw [HPU.out HPL.out, HSL.out HPL.out]; exact own_mono HO6.out HB0.out.size, HB0.out.trans (HB6.out.mono HB0.out.size)⟩
end Go.Proofs.YtnmailhlncchmaaDoor
