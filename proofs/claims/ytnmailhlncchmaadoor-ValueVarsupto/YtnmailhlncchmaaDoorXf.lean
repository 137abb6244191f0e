/-
  What is proved: contract of slices.BinarySearchFunc at value's variables and order. Conditions: those in each statement.
-/
import Derived.Test.YtnmailhlncchmaaDoorXe
namespace Go.Proofs.YtnmailhlncchmaaDoor
open Go.RowKit

/-- p: how many names stand ahead of t -/
def Spot (l : List Vr) (t : ByteArray) (p : Nat) : Prop := p ≤ l.length ∧ (∀ i (h : i < l.length), i < p → bl l[i].nm t = true) ∧ (∀ i (h : i < l.length), p ≤ i → bl l[i].nm t = false)
def foundB (l : List Vr) (t : ByteArray) (p : Nat) : Bool := match l[p]? with
  | some x => decide (x.nm = t)
  | none => false
def Mono (l : List Vr) (t : ByteArray) : Prop := ∀ a b (ha : a < l.length) (hb : b < l.length), a ≤ b → bl l[b].nm t = true → bl l[a].nm t = true
theorem cmp_lt {a t : ByteArray} (h : bl a t = true) : Lib.compareBytes a.data.toList t.data.toList = -1 := by rw [cmp_bl, h]; rfl
theorem cmp_ge {a t : ByteArray} (h : bl a t = false) : Lib.compareBytes a.data.toList t.data.toList = if a = t then 0 else 1 := by rw [cmp_bl, h]; simp
set_option maxHeartbeats 8000000 in
set_option maxRecDepth 100000 in
theorem search_any (w : World) (A : Option Addr) (n c : Nat) (l : List Vr) (t : ByteArray) (h : HR w A n c l) (hn : n ≤ 1048576) (hm : Mono l t) :
    Calls Tryd.prog 38 #[.slice A n c, .string t, .func (.func 39) #[] #[]] w fun e w' => ∃ p, Spot l t p ∧ e = .returned (.tuple #[.int .i64 (p : Int), .bool (foundB l t p)]) ∧ Below w.heap.size w w' := by
  have hln := h.1
  have HH := Lib.hid h
  have HM := Lib.hid hm
  clear h hm
  go_enter Tryd.func38, Tryd.ntmps38
  go_wp2
  go_loopg [9, 10] n (fun kx v9 v10 wr => ∃ i j : Nat, v9 = .int .i64 (i : Int) ∧ v10 = .int .i64 (j : Int) ∧ i ≤ j ∧ j ≤ n ∧ j - i ≤ kx ∧ Hid (∀ q (hq : q < l.length), q < i → bl l[q].nm t = true) ∧ Hid (∀ q (hq : q < l.length), j ≤ q → bl l[q].nm t = false) ∧ Hid (Below w.heap.size w wr))
  case atStart => exact ⟨0, n, rfl, rfl, Nat.zero_le _, Nat.le_refl _, by omega, Lib.hid (fun q _ h => absurd h (Nat.not_lt_zero _)), Lib.hid (fun q h1 h2 => by omega), Lib.hid (Below.refl _ _)⟩
  case round =>
    obtain ⟨i, j, rfl, rfl, hij, hjn, hkx, HL, HU, HB⟩ := hrel
    by_cases hlt : i < j
    · have hq : (i + j) / 2 < l.length := by omega
      obtain ⟨b, o, rfl, hbl, e0, e1, e2, e3⟩ := HH.out.elem ((i + j) / 2) hq
      have d0 := (HB.out.cell (p := ⟨b, o + (i + j) / 2 * 4, none⟩) hbl).trans e0
      have d1 := (HB.out.cell (p := ⟨b, o + (i + j) / 2 * 4 + 1, none⟩) hbl).trans e1
      have d2 := (HB.out.cell (p := ⟨b, o + (i + j) / 2 * 4 + 2, none⟩) hbl).trans e2
      have d3 := (HB.out.cell (p := ⟨b, o + (i + j) / 2 * 4 + 3, none⟩) hbl).trans e3
      clear e0 e1 e2 e3
      have HMM := Lib.hid (fun q (hq2 : q < l.length) (h : q ≤ (i + j) / 2) => HM.out q ((i + j) / 2) hq2 hq h)
      have HMU := Lib.hid (fun q (hq2 : q < l.length) (h : (i + j) / 2 ≤ q) => HM.out ((i + j) / 2) q hq hq2 h)
      have HO := Lib.hid (fun W => order_any W l[(i + j) / 2] t)
      generalize l[(i + j) / 2] = x at *
      obtain ⟨nm, k, m, s⟩ := x
      simp only at d0 d1 d2 d3
      cases hb : bl nm t with
      | true =>
        have HL2 : Hid (∀ q (hq : q < l.length), q < (i + j) / 2 + 1 → bl l[q].nm t = true) := Lib.hid (fun q hq2 h => HMM.out q hq2 (by omega) hb)
        have hcmp := cmp_lt hb
        rw [hcmp] at HO
        clear hb HMM HMU hcmp
        go_wp2_with (go_at_call 39; refine (HO.out _).mono ?_; rintro e w2 ⟨rfl, hb2⟩; have HB2 := Lib.hid (HB.out.trans (hb2.mono HB.out.size)); clear hb2)
        go_roundg (j - ((i + j) / 2 + 1))
        case measure => omega
        case rel => exact ⟨(i + j) / 2 + 1, j, by go_num, rfl, by omega, hjn, Nat.le_refl _, HL2, HU, HB2⟩
      | false =>
        have HU2 : Hid (∀ q (hq : q < l.length), (i + j) / 2 ≤ q → bl l[q].nm t = false) := Lib.hid (fun q hq2 h => by
          cases hx : bl l[q].nm t with
          | false => rfl
          | true => have := HMU.out q hq2 h hx; rw [hb] at this; cases this)
        have hcmp := cmp_ge hb
        rw [hcmp] at HO
        have hnn : ¬ (if nm = t then (0 : Int) else 1) < 0 := by split <;> omega
        generalize (if nm = t then (0 : Int) else 1) = z at *
        clear hb HMM HMU hcmp
        go_wp2_with (go_at_call 39; refine (HO.out _).mono ?_; rintro e w2 ⟨rfl, hb2⟩; have HB2 := Lib.hid (HB.out.trans (hb2.mono HB.out.size)); clear hb2)
        go_roundg ((i + j) / 2 - i)
        case measure => omega
        case rel => exact ⟨i, (i + j) / 2, rfl, by go_num, by omega, by omega, Nat.le_refl _, HL, HU2, HB2⟩
    · obtain rfl : j = i := by omega
      have HSP : Hid (Spot l t j) := Lib.hid ⟨by omega, HL.out, HU.out⟩
      by_cases hjn2 : j < n
      · have hq : j < l.length := by omega
        obtain ⟨b, o, rfl, hbl, e0, e1, e2, e3⟩ := HH.out.elem j hq
        have d0 := (HB.out.cell (p := ⟨b, o + j * 4, none⟩) hbl).trans e0
        have d1 := (HB.out.cell (p := ⟨b, o + j * 4 + 1, none⟩) hbl).trans e1
        have d2 := (HB.out.cell (p := ⟨b, o + j * 4 + 2, none⟩) hbl).trans e2
        have d3 := (HB.out.cell (p := ⟨b, o + j * 4 + 3, none⟩) hbl).trans e3
        clear e0 e1 e2 e3
        have hbj := HU.out j hq (Nat.le_refl _)
        have HFO : Hid (foundB l t j = decide (l[j].nm = t)) := Lib.hid (by unfold foundB; rw [List.getElem?_eq_getElem hq])
        have HO := Lib.hid (fun W => order_any W l[j] t)
        generalize l[j] = x at *
        obtain ⟨nm, k, m, s⟩ := x
        simp only at d0 d1 d2 d3 hbj HFO
        have hcmp := cmp_ge hbj
        rw [hcmp] at HO
        clear hcmp hbj HL HU
        by_cases hnm : nm = t
        · rw [if_pos hnm] at HO
          have HF2 : Hid (foundB l t j = true) := Lib.hid (by rw [HFO.out, decide_eq_true hnm])
          clear hnm HFO
          go_wp2_with (go_at_call 39; refine (HO.out _).mono ?_; rintro e w2 ⟨rfl, hb2⟩; have HB2 := Lib.hid (HB.out.trans (hb2.mono HB.out.size)); clear hb2)
          go_ret2
          exact ⟨j, HSP.out, by rw [HF2.out]; rfl, HB2.out⟩
        · rw [if_neg hnm] at HO
          have HF2 : Hid (foundB l t j = false) := Lib.hid (by rw [HFO.out, decide_eq_false hnm])
          clear hnm HFO
          go_wp2_with (go_at_call 39; refine (HO.out _).mono ?_; rintro e w2 ⟨rfl, hb2⟩; have HB2 := Lib.hid (HB.out.trans (hb2.mono HB.out.size)); clear hb2)
          go_ret2
          exact ⟨j, HSP.out, by rw [HF2.out]; rfl, HB2.out⟩
      · have HF2 : Hid (foundB l t j = false) := Lib.hid (by unfold foundB; rw [List.getElem?_eq_none (by omega)])
        go_wp2
        go_ret2
        exact ⟨j, HSP.out, by rw [HF2.out]; rfl, HB.out⟩
end Go.Proofs.YtnmailhlncchmaaDoor
