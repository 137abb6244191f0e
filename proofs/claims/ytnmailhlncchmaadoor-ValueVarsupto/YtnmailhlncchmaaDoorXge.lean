/-
  What is proved: contracts of value's Get and of the document's Get. Conditions: those in each statement.
-/
import Derived.Test.YtnmailhlncchmaaDoorXgr
namespace Go.Proofs.YtnmailhlncchmaaDoor
open Go.RowKit

/-- the first value under a name -/
def getV (l : List Vr) (t : ByteArray) : Option Val := match l with
  | [] => none
  | x :: r => if x.nm = t then some x.v else getV r t
theorem getV_on {l : List Vr} {t : ByteArray} {i : Nat} (h : i < l.length) (hn : l[i].nm ≠ t) : getV (l.drop i) t = getV (l.drop (i + 1)) t := by
  rw [List.drop_eq_getElem_cons h]
  show (if l[i].nm = t then _ else _) = _
  rw [if_neg hn]
theorem getV_at {l : List Vr} {t : ByteArray} {i : Nat} (h : i < l.length) (hn : l[i].nm = t) : getV (l.drop i) t = some l[i].v := by
  rw [List.drop_eq_getElem_cons h]
  show (if l[i].nm = t then _ else _) = _
  rw [if_pos hn]
theorem name_eq {a b : ByteArray} (h : a = b) : (a.toList == b.toList) = true := by subst h; exact beq_self_eq_true _
theorem name_ne {a b : ByteArray} (h : a ≠ b) : (a.toList == b.toList) = false := beq_eq_false_iff_ne.2 (fun e => h (ba_ext (by rw [← ByteArray.toList_eq, ← ByteArray.toList_eq]; exact e)))
set_option maxHeartbeats 8000000 in
set_option maxRecDepth 100000 in
theorem get_any (w : World) (A : Option Addr) (n c : Nat) (l : List Vr) (t : ByteArray) (h : HR w A n c l) (hn : n ≤ 140737488355328) : Calls Tryd.prog 19 #[.slice A n c, .string t] w (PPost w (getV l t)) := by
  have hln := h.1
  obtain ⟨W0, hW0⟩ : ∃ W0, W0 = w.alloc (.cells #[.int .i64 0, .int .i64 0, .string ⟨#[]⟩] 23 (0, 0)) := ⟨_, rfl⟩
  have HB0 : Hid (Below w.heap.size w W0) := Lib.hid (by rw [hW0]; exact (Below.refl _ _).alloc (Nat.le_refl _) _)
  have HX0 : Hid (Bx 23 W0 w.heap.size #[.int .i64 0, .int .i64 0, .string ⟨#[]⟩]) := Lib.hid (by rw [hW0]; exact Bx.new w _ _)
  have HH : Hid (HR W0 A n c l) := Lib.hid (h.below HB0.out)
  have HW0 := Lib.hid hW0
  have HLN := Lib.hid hln
  clear h hW0
  go_enter Tryd.func19, Tryd.ntmps19
  go_wp2
  rw [← HW0.out]
  go_loopg [10] n (fun kx vi wr => ∃ i : Nat, vi = .int .i64 (i : Int) ∧ i ≤ n ∧ n - i ≤ kx ∧ Hid (getV l t = getV (l.drop i) t) ∧ Hid (Below W0.heap.size W0 wr))
  case atStart => exact ⟨0, rfl, Nat.zero_le _, Nat.le_refl _, Lib.hid rfl, Lib.hid (Below.refl _ _)⟩
  case round =>
    obtain ⟨i, rfl, hi, hkx, HI, HB⟩ := hrel
    have hx := HX0.out.below HB.out HX0.out.lt
    have HXr := Lib.hid hx
    have HBr := Lib.hid (HB0.out.trans (HB.out.mono HB0.out.size))
    by_cases he : i < n
    · have hil : i < l.length := by omega
      obtain ⟨b, o, rfl, hlt, e0, e1, e2, e3⟩ := HH.out.elem i hil
      have d0 := (HB.out.cell (p := ⟨b, o + i * 4, none⟩) hlt).trans e0
      have d1 := (HB.out.cell (p := ⟨b, o + i * 4 + 1, none⟩) hlt).trans e1
      have d2 := (HB.out.cell (p := ⟨b, o + i * 4 + 2, none⟩) hlt).trans e2
      have d3 := (HB.out.cell (p := ⟨b, o + i * 4 + 3, none⟩) hlt).trans e3
      clear e0 e1 e2 e3
      have HAT := Lib.hid (getV_at (t := t) hil)
      have HON := Lib.hid (getV_on (t := t) hil)
      generalize l[i] = x at *
      obtain ⟨nm, k, m, s⟩ := x
      simp only at d0 d1 d2 d3
      by_cases hq : nm = t
      · have HT : Hid (getV l t = some ⟨k, m, s⟩) := Lib.hid (by rw [HI.out, HAT.out hq])
        have hb := name_eq hq
        clear hq HAT HON HI
        have hx4 := hx.alloc (.cells #[.string nm, .int .i64 k, .int .i64 m, .string s] 42 (0, 0))
        have HX3 := Lib.hid (hx4.three (.int .i64 k) (.int .i64 m) (.string s))
        have HB3 := Lib.hid (below_three (HBr.out.alloc HBr.out.size (.cells #[.string nm, .int .i64 k, .int .i64 m, .string s] 42 (0, 0))) (Nat.le_refl _) (.int .i64 k) (.int .i64 m) (.string s))
        have r0 := hx4.c (j := 0) rfl
        have r1 := hx4.c (j := 1) rfl
        have r2 := hx4.c (j := 2) rfl
        have f0 := hx4.fz 0
        have f1 := hx4.fz 1
        have f2 := hx4.fz 2
        clear hx hx4
        go_wp2
        have y0 := HX3.out.c (j := 0) rfl
        have y1 := HX3.out.c (j := 1) rfl
        have y2 := HX3.out.c (j := 2) rfl
        refine bodyPost_ret (v := .tuple #[.agg #[.int .i64 k, .int .i64 m, .string s], .bool true]) (by simp only [results, Tryd.results19]; simp [go_sem, y0, y1, y2]) rfl ?_
        exact ⟨by rw [HT.out]; rfl, HB3.out⟩
      · have HN : Hid (getV l t = getV (l.drop (i + 1)) t) := Lib.hid (by rw [HI.out, HON.out hq])
        have hb := name_ne hq
        clear hq HAT HON HI hx
        go_wp2
        go_roundg (n - (i + 1))
        case measure => omega
        case rel => exact ⟨i + 1, by go_num, by omega, Nat.le_refl _, HN, Lib.hid (HB.out.alloc HB.out.size _)⟩
    · have HT : Hid (getV l t = none) := Lib.hid (by rw [HI.out, List.drop_of_length_le (by omega)]; rfl)
      have HX3 := Lib.hid (hx.three (.int .i64 0) (.int .i64 0) (.string ⟨#[]⟩))
      have HB3 := Lib.hid (below_three HBr.out (Nat.le_refl _) (.int .i64 0) (.int .i64 0) (.string ⟨#[]⟩))
      have r0 := hx.c (j := 0) rfl
      have r1 := hx.c (j := 1) rfl
      have r2 := hx.c (j := 2) rfl
      have f0 := hx.fz 0
      have f1 := hx.fz 1
      have f2 := hx.fz 2
      clear hx
      go_wp2
      have y0 := HX3.out.c (j := 0) rfl
      have y1 := HX3.out.c (j := 1) rfl
      have y2 := HX3.out.c (j := 2) rfl
      refine bodyPost_ret (v := .tuple #[.agg #[.int .i64 0, .int .i64 0, .string ⟨#[]⟩], .bool false]) (by simp only [results, Tryd.results19]; simp [go_sem, y0, y1, y2]) rfl ?_
      exact ⟨by rw [HT.out]; rfl, HB3.out⟩
set_option maxHeartbeats 8000000 in
set_option maxRecDepth 100000 in
theorem dGet_any (w : World) (A : Option Addr) (n c : Nat) (l : List Vr) (t : ByteArray) (h : HR w A n c l) (hn : n ≤ 140737488355328) : Calls Tryd.prog 20 #[.slice A n c, .string t] w (PPost w (getV l t)) := by
  have hln := h.1
  obtain ⟨W0, hW0⟩ : ∃ W0, W0 = w.alloc (.cells #[.int .i64 0, .int .i64 0, .string ⟨#[]⟩] 23 (0, 0)) := ⟨_, rfl⟩
  have HB0 : Hid (Below w.heap.size w W0) := Lib.hid (by rw [hW0]; exact (Below.refl _ _).alloc (Nat.le_refl _) _)
  have HX0 : Hid (Bx 23 W0 w.heap.size #[.int .i64 0, .int .i64 0, .string ⟨#[]⟩]) := Lib.hid (by rw [hW0]; exact Bx.new w _ _)
  have HH : Hid (HR W0 A n c l) := Lib.hid (h.below HB0.out)
  have HW0 := Lib.hid hW0
  have HLN := Lib.hid hln
  clear h hW0
  go_enter Tryd.func20, Tryd.ntmps20
  go_wp2
  rw [← HW0.out]
  go_loopg [6] n (fun kx vi wr => ∃ i : Nat, vi = .int .i64 (i : Int) ∧ i ≤ n ∧ n - i ≤ kx ∧ Hid (getV l t = getV (l.drop i) t) ∧ Hid (Below W0.heap.size W0 wr))
  case atStart => exact ⟨0, rfl, Nat.zero_le _, Nat.le_refl _, Lib.hid rfl, Lib.hid (Below.refl _ _)⟩
  case round =>
    obtain ⟨i, rfl, hi, hkx, HI, HB⟩ := hrel
    have hx := HX0.out.below HB.out HX0.out.lt
    have HXr := Lib.hid hx
    have HBr := Lib.hid (HB0.out.trans (HB.out.mono HB0.out.size))
    by_cases he : i < n
    · have hil : i < l.length := by omega
      obtain ⟨b, o, rfl, hlt, e0, e1, e2, e3⟩ := HH.out.elem i hil
      have d0 := (HB.out.cell (p := ⟨b, o + i * 4, none⟩) hlt).trans e0
      have d1 := (HB.out.cell (p := ⟨b, o + i * 4 + 1, none⟩) hlt).trans e1
      have d2 := (HB.out.cell (p := ⟨b, o + i * 4 + 2, none⟩) hlt).trans e2
      have d3 := (HB.out.cell (p := ⟨b, o + i * 4 + 3, none⟩) hlt).trans e3
      clear e0 e1 e2 e3
      have HAT := Lib.hid (getV_at (t := t) hil)
      have HON := Lib.hid (getV_on (t := t) hil)
      generalize l[i] = x at *
      obtain ⟨nm, k, m, s⟩ := x
      simp only at d0 d1 d2 d3
      by_cases hq : nm = t
      · have HT : Hid (getV l t = some ⟨k, m, s⟩) := Lib.hid (by rw [HI.out, HAT.out hq])
        have hb := name_eq hq
        clear hq HAT HON HI
        have HX3 := Lib.hid (hx.three (.int .i64 k) (.int .i64 m) (.string s))
        have HB3 := Lib.hid (below_three HBr.out (Nat.le_refl _) (.int .i64 k) (.int .i64 m) (.string s))
        have r0 := hx.c (j := 0) rfl
        have r1 := hx.c (j := 1) rfl
        have r2 := hx.c (j := 2) rfl
        have f0 := hx.fz 0
        have f1 := hx.fz 1
        have f2 := hx.fz 2
        clear hx
        go_wp2
        have y0 := HX3.out.c (j := 0) rfl
        have y1 := HX3.out.c (j := 1) rfl
        have y2 := HX3.out.c (j := 2) rfl
        refine bodyPost_ret (v := .tuple #[.agg #[.int .i64 k, .int .i64 m, .string s], .bool true]) (by simp only [results, Tryd.results20]; simp [go_sem, y0, y1, y2]) rfl ?_
        exact ⟨by rw [HT.out]; rfl, HB3.out⟩
      · have HN : Hid (getV l t = getV (l.drop (i + 1)) t) := Lib.hid (by rw [HI.out, HON.out hq])
        have hb := name_ne hq
        clear hq HAT HON HI hx
        go_wp2
        go_roundg (n - (i + 1))
        case measure => omega
        case rel => exact ⟨i + 1, by go_num, by omega, Nat.le_refl _, HN, HB⟩
    · have HT : Hid (getV l t = none) := Lib.hid (by rw [HI.out, List.drop_of_length_le (by omega)]; rfl)
      have HX3 := Lib.hid (hx.three (.int .i64 0) (.int .i64 0) (.string ⟨#[]⟩))
      have HB3 := Lib.hid (below_three HBr.out (Nat.le_refl _) (.int .i64 0) (.int .i64 0) (.string ⟨#[]⟩))
      have r0 := hx.c (j := 0) rfl
      have r1 := hx.c (j := 1) rfl
      have r2 := hx.c (j := 2) rfl
      have f0 := hx.fz 0
      have f1 := hx.fz 1
      have f2 := hx.fz 2
      clear hx
      go_wp2
      have y0 := HX3.out.c (j := 0) rfl
      have y1 := HX3.out.c (j := 1) rfl
      have y2 := HX3.out.c (j := 2) rfl
      refine bodyPost_ret (v := .tuple #[.agg #[.int .i64 0, .int .i64 0, .string ⟨#[]⟩], .bool false]) (by simp only [results, Tryd.results20]; simp [go_sem, y0, y1, y2]) rfl ?_
      exact ⟨by rw [HT.out]; rfl, HB3.out⟩
end Go.Proofs.YtnmailhlncchmaaDoor
