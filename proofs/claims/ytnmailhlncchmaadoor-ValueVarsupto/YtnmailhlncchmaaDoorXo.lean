/-
  What is proved: contracts of value's meant and Parse. Conditions: those in each statement.
-/
import Derived.Test.YtnmailhlncchmaaDoorXp
namespace Go.Proofs.YtnmailhlncchmaaDoor
open Go.RowKit

/-- a block of this type with these cells -/
def Bx (t : TypeId) (w : World) (q : Nat) (cs : Array Value) : Prop := w.heap[q]? = some (.cells cs t (0, 0))
section
variable {t : TypeId} {w w' : World} {q : Nat} {cs : Array Value}
theorem Bx.c (h : Bx t w q cs) {j : Nat} {v : Value} (hj : cs[j]? = some v) : w.cell? ⟨q, j, none⟩ = some v := by rw [Lib.cell_of_heap h]; exact hj
theorem Bx.fz (h : Bx t w q cs) (j : Nat) : w.frozen? ⟨q, j, none⟩ = false := Lib.frozen_of_heap h j
theorem Bx.set (h : Bx t w q cs) (j : Nat) (v : Value) : Bx t (w.setCell ⟨q, j, none⟩ v) q (cs.setIfInBounds j v) := heap_setCell_at h j v
theorem Bx.other (h : Bx t w q cs) {r : Nat} (hr : r ≠ q) (j : Nat) (v : Value) : Bx t (w.setCell ⟨r, j, none⟩ v) q cs := by
  unfold Bx; rw [Below.heap_setCell _ _ _ _ (by exact Ne.symm hr)]; exact h
theorem Bx.below {B : Nat} (h : Bx t w q cs) (hb : Below B w w') (hB : q < B) : Bx t w' q cs := by
  unfold Bx; rw [hb.block q hB]; exact h
theorem Bx.lt (h : Bx t w q cs) : q < w.heap.size := (Array.getElem?_eq_some_iff.1 h).1
theorem Bx.alloc (h : Bx t w q cs) (o : Obj) : Bx t (w.alloc o) q cs := by
  have := h.lt
  unfold Bx at *; rw [Below.heap_alloc _ _ _ this]; exact h
theorem Bx.new (w : World) (t : TypeId) (cs : Array Value) : Bx t (w.alloc (.cells cs t)) w.heap.size cs := heap_at _ _ _ rfl
end
theorem Bx.grown {t : TypeId} {w w' : World} {q : Nat} {cs : Array Value} {o : Option Nat} (h : Bx t w q cs) (hg : w.grownBy w' o) (hne : o ≠ some q) : Bx t w' q cs := by
  unfold Bx; rw [hg.block q h.lt (fun e => hne e.symm)]; exact h
theorem Bx.three {t : TypeId} {w : World} {q : Nat} {a0 a1 a2 : Value} (h : Bx t w q #[a0, a1, a2]) (v0 v1 v2 : Value) :
    Bx t (((w.setCell ⟨q, 0, none⟩ v0).setCell ⟨q, 1, none⟩ v1).setCell ⟨q, 2, none⟩ v2) q #[v0, v1, v2] := ((h.set 0 v0).set 1 v1).set 2 v2
theorem below_three {w W : World} {b B : Nat} (h : Below B w W) (hb : B ≤ b) (v0 v1 v2 : Value) : Below B w (((W.setCell ⟨b, 0, none⟩ v0).setCell ⟨b, 1, none⟩ v1).setCell ⟨b, 2, none⟩ v2) :=
  ((h.setCell (p := ⟨b, 0, none⟩) hb v0).setCell (p := ⟨b, 1, none⟩) hb v1).setCell (p := ⟨b, 2, none⟩) hb v2
/-- a value in the model -/
def vV (v : Val) : Value := .agg #[.int .i64 v.k, .int .i64 v.n, .string v.s]
theorem beq_yes {s : ByteArray} {l : List UInt8} (h : s.data.toList = l) : (s.toList == l) = true := by rw [ByteArray.toList_eq, h]; exact beq_self_eq_true l
theorem beq_no {s : ByteArray} {l : List UInt8} (h : ¬ s.data.toList = l) : (s.toList == l) = false := beq_eq_false_iff_ne.2 (fun e => h (by rw [← ByteArray.toList_eq]; exact e))
theorem head_at {s : ByteArray} (h : 0 < s.size) : s.data.toList.headD 0 = s[0] := by
  have := tl_cons s 0 h
  rw [tl_zero] at this
  rw [this]; rfl
theorem mea_q {s : ByteArray} (h1 : ¬ s.data.toList = trueL) (h2 : ¬ s.data.toList = falseL) (h3 : 2 ≤ s.size) (h4 : s[0].toNat = 34) : meaV s.data.toList = ⟨3, 0, ⟨(uneV (innerL s.data.toList)).toArray⟩⟩ := by
  unfold meaV
  rw [if_neg h1, if_neg h2, if_pos]
  unfold qB
  rw [size_toList, head_at (by omega), decide_eq_true h3, decide_eq_true h4]; rfl
theorem mea_i {s : ByteArray} (h1 : ¬ s.data.toList = trueL) (h2 : ¬ s.data.toList = falseL) (h : ¬ (2 ≤ s.size ∧ (s.data.toList.headD 0).toNat = 34)) : meaV s.data.toList = intoV (Lib.parseIntB 64 s.data.toList) := by
  unfold meaV
  rw [if_neg h1, if_neg h2, if_neg]
  unfold qB
  rw [size_toList]
  simp only [Bool.and_eq_true, decide_eq_true_eq]
  exact h
theorem inner_ext (s : ByteArray) (h : 2 ≤ s.size) : (s.extract 1 (s.size - 1)).data.toList = innerL s.data.toList := by
  unfold innerL
  rw [ByteArray.data_extract, size_toList]
  simp
  congr 1
  omega
theorem ext_size (s : ByteArray) (h : 2 ≤ s.size) : (s.extract 1 (s.size - 1)).size ≤ s.size := by
  rw [ByteArray.size_extract]; omega
def MPost (w : World) (v : Val) (e : Ending) (w' : World) : Prop := e = .returned (.agg #[.int .i64 v.k, .int .i64 v.n, .string v.s]) ∧ Below w.heap.size w w'
set_option maxHeartbeats 8000000 in
set_option maxRecDepth 100000 in
theorem meant_num (w : World) (s : ByteArray) (hs : s.size ≤ 65536) (hG : Glob w) (h1 : ¬ s.data.toList = trueL) (h2 : ¬ s.data.toList = falseL) (h : ¬ (2 ≤ s.size ∧ (s.data.toList.headD 0).toNat = 34)) : Calls Tryd.prog 35 #[.string s] w (MPost w (meaV s.data.toList)) := by
  have HP : ∀ W : World, Glob W → Calls Tryd.prog 49 #[.string s, .int .i64 10, .int .i64 64] W fun e w' => (match Lib.parseIntB 64 s.data.toList with
      | .ok n => e = .returned (.tuple #[.int .i64 n, .nilIface])
      | _ => ∃ z N, e = .returned (.tuple #[.int .i64 z, .iface 100 (.pointer (some ⟨N, 0, none⟩))])) ∧ Below W.heap.size W w' := by
    intro W hG2
    cases hp : Lib.parseIntB 64 s.data.toList with
    | ok n =>
      refine (Tryd.strconv_ParseInt_10_at64_ok s (by omega) n hp W).mono ?_
      rintro e w' ⟨rfl, hw⟩
      refine ⟨rfl, ?_⟩
      rcases hw with rfl | ⟨t, rfl⟩
      · exact Below.refl _ _
      · exact Lib.bytesWorld_below W 5 t
    | «syntax» =>
      obtain ⟨tp, p, hv⟩ := hG2.es
      refine (Tryd.strconv_ParseInt_10_at64_syntax_var s (by omega) hp tp p W hv).mono ?_
      rintro e w' ⟨N, rfl, _, _, hb⟩
      exact ⟨⟨_, N, rfl⟩, hb⟩
    | range =>
      obtain ⟨tp, p, hv⟩ := hG2.er
      refine (Tryd.strconv_ParseInt_10_at64_range_var s (by omega) hp tp p W hv).mono ?_
      rintro e w' ⟨N, rfl, _, _, hb⟩
      exact ⟨⟨_, N, rfl⟩, hb⟩
  have HG : Hid (Glob (w.alloc (.cells #[.int .i64 0, .int .i64 0, .string ⟨#[]⟩] 23 (0, 0)))) := Lib.hid (hG.below ((Below.refl w.heap.size _).alloc (Nat.le_refl _) _) hG.size)
  have HB0 : Hid (Below w.heap.size w (w.alloc (.cells #[.int .i64 0, .int .i64 0, .string ⟨#[]⟩] 23 (0, 0)))) := Lib.hid ((Below.refl _ _).alloc (Nat.le_refl _) _)
  have HX0 := Lib.hid (Bx.new w 23 #[.int .i64 0, .int .i64 0, .string ⟨#[]⟩])
  have HV := Lib.hid (mea_i h1 h2 h)
  have e1 := beq_no h1
  have e2 := beq_no h2
  unfold trueL at e1
  unfold falseL at e2
  have h34 : ¬ (2 ≤ s.size) ∨ ((∃ h0 : 0 < s.size, 2 ≤ s.size ∧ ((s[0].toNat : Int) == 34) = false)) := by
    by_cases hz : 2 ≤ s.size
    · refine .inr ⟨by omega, hz, beq_eq_false_iff_ne.2 (fun e => h ⟨hz, ?_⟩)⟩
      rw [head_at (by omega)]; omega
    · exact .inl hz
  clear h hG h1 h2
  cases hp : Lib.parseIntB 64 s.data.toList with
  | ok n =>
    rw [hp] at HP HV
    have HP2 := Lib.hid HP
    clear HP hp
    rcases h34 with h34 | ⟨h0, hz2, h34⟩
    all_goals
      go_enter Tryd.func35, Tryd.ntmps35
      go_wp2_with (go_at_call 49; refine (HP2.out _ HG.out).mono ?_; rintro e w2 ⟨rfl, hb2⟩; have hx2 := HX0.out.below hb2 (by simp); have c0 := hx2.c (j := 0) rfl; have c1 := hx2.c (j := 1) rfl; have c2 := hx2.c (j := 2) rfl; have f0 := hx2.fz 0; have f1 := hx2.fz 1; have f2 := hx2.fz 2; have HX3 := Lib.hid (hx2.three (.int .i64 1) (.int .i64 n) (.string ⟨#[]⟩)); have HB3 := Lib.hid (below_three (HB0.out.trans (hb2.mono (by simp))) (Nat.le_refl _) (.int .i64 1) (.int .i64 n) (.string ⟨#[]⟩)); clear hb2 hx2)
      have y0 := HX3.out.c (j := 0) rfl
      have y1 := HX3.out.c (j := 1) rfl
      have y2 := HX3.out.c (j := 2) rfl
      refine bodyPost_ret (v := .agg #[.int .i64 1, .int .i64 n, .string ⟨#[]⟩]) (by simp only [results, Tryd.results35]; simp [go_sem, y0, y1, y2]) rfl ?_
      exact ⟨by rw [HV.out]; rfl, HB3.out⟩
  | «syntax» =>
    rw [hp] at HP HV
    have HP2 := Lib.hid HP
    clear HP hp
    rcases h34 with h34 | ⟨h0, hz2, h34⟩
    all_goals
      go_enter Tryd.func35, Tryd.ntmps35
      go_wp2_with (go_at_call 49; refine (HP2.out _ HG.out).mono ?_; rintro e w2 ⟨⟨z, N, rfl⟩, hb2⟩; have hx2 := HX0.out.below hb2 (by simp); have c0 := hx2.c (j := 0) rfl; have c1 := hx2.c (j := 1) rfl; have c2 := hx2.c (j := 2) rfl; have f0 := hx2.fz 0; have f1 := hx2.fz 1; have f2 := hx2.fz 2; have HX3 := Lib.hid (hx2.three (.int .i64 0) (.int .i64 0) (.string ⟨#[]⟩)); have HB3 := Lib.hid (below_three (HB0.out.trans (hb2.mono (by simp))) (Nat.le_refl _) (.int .i64 0) (.int .i64 0) (.string ⟨#[]⟩)); clear hb2 hx2)
      have y0 := HX3.out.c (j := 0) rfl
      have y1 := HX3.out.c (j := 1) rfl
      have y2 := HX3.out.c (j := 2) rfl
      refine bodyPost_ret (v := .agg #[.int .i64 0, .int .i64 0, .string ⟨#[]⟩]) (by simp only [results, Tryd.results35]; simp [go_sem, y0, y1, y2]) rfl ?_
      exact ⟨by rw [HV.out]; rfl, HB3.out⟩
  | range =>
    rw [hp] at HP HV
    have HP2 := Lib.hid HP
    clear HP hp
    rcases h34 with h34 | ⟨h0, hz2, h34⟩
    all_goals
      go_enter Tryd.func35, Tryd.ntmps35
      go_wp2_with (go_at_call 49; refine (HP2.out _ HG.out).mono ?_; rintro e w2 ⟨⟨z, N, rfl⟩, hb2⟩; have hx2 := HX0.out.below hb2 (by simp); have c0 := hx2.c (j := 0) rfl; have c1 := hx2.c (j := 1) rfl; have c2 := hx2.c (j := 2) rfl; have f0 := hx2.fz 0; have f1 := hx2.fz 1; have f2 := hx2.fz 2; have HX3 := Lib.hid (hx2.three (.int .i64 0) (.int .i64 0) (.string ⟨#[]⟩)); have HB3 := Lib.hid (below_three (HB0.out.trans (hb2.mono (by simp))) (Nat.le_refl _) (.int .i64 0) (.int .i64 0) (.string ⟨#[]⟩)); clear hb2 hx2)
      have y0 := HX3.out.c (j := 0) rfl
      have y1 := HX3.out.c (j := 1) rfl
      have y2 := HX3.out.c (j := 2) rfl
      refine bodyPost_ret (v := .agg #[.int .i64 0, .int .i64 0, .string ⟨#[]⟩]) (by simp only [results, Tryd.results35]; simp [go_sem, y0, y1, y2]) rfl ?_
      exact ⟨by rw [HV.out]; rfl, HB3.out⟩
set_option maxHeartbeats 8000000 in
set_option maxRecDepth 100000 in
theorem meant_any (w : World) (s : ByteArray) (hs : s.size ≤ 65536) (hG : Glob w) : Calls Tryd.prog 35 #[.string s] w (MPost w (meaV s.data.toList)) := by
  by_cases h1 : s.data.toList = trueL
  · have HV : Hid (meaV s.data.toList = ⟨2, 1, ⟨#[]⟩⟩) := Lib.hid (by unfold meaV; rw [if_pos h1])
    have e1 := beq_yes h1
    unfold trueL at e1
    clear h1
    go_enter Tryd.func35, Tryd.ntmps35
    go_wp2
    refine bodyPost_ret (v := .agg #[.int .i64 2, .int .i64 1, .string ⟨#[]⟩]) (by simp only [results, Tryd.results35]; simp [go_sem]) rfl ?_
    exact ⟨by rw [HV.out], (Below.refl _ _).alloc (Nat.le_refl _) _⟩
  by_cases h2 : s.data.toList = falseL
  · have HV : Hid (meaV s.data.toList = ⟨2, 0, ⟨#[]⟩⟩) := Lib.hid (by unfold meaV; rw [if_neg h1, if_pos h2])
    have e1 := beq_no h1
    have e2 := beq_yes h2
    unfold trueL at e1
    unfold falseL at e2
    clear h1 h2
    go_enter Tryd.func35, Tryd.ntmps35
    go_wp2
    refine bodyPost_ret (v := .agg #[.int .i64 2, .int .i64 0, .string ⟨#[]⟩]) (by simp only [results, Tryd.results35]; simp [go_sem]) rfl ?_
    exact ⟨by rw [HV.out], (Below.refl _ _).alloc (Nat.le_refl _) _⟩
  by_cases h : 2 ≤ s.size ∧ (s.data.toList.headD 0).toNat = 34
  · obtain ⟨h3, h4⟩ := h
    have h0 : 0 < s.size := by omega
    rw [head_at h0] at h4
    have HV := Lib.hid (mea_q h1 h2 h3 h4)
    have e1 := beq_no h1
    have e2 := beq_no h2
    unfold trueL at e1
    unfold falseL at e2
    have q34 : ((s[0].toNat : Int) == 34) = true := beq_iff_eq.2 (by omega)
    have HU := Lib.hid (fun W => unescaped_any W (s.extract 1 (s.size - 1)) (by have := ext_size s h3; omega))
    rw [inner_ext s h3] at HU
    have HB0 : Hid (Below w.heap.size w (w.alloc (.cells #[.int .i64 0, .int .i64 0, .string ⟨#[]⟩] 23 (0, 0)))) := Lib.hid ((Below.refl _ _).alloc (Nat.le_refl _) _)
    have HX0 := Lib.hid (Bx.new w 23 #[.int .i64 0, .int .i64 0, .string ⟨#[]⟩])
    clear h1 h2 h4 hG
    generalize uneV (innerL s.data.toList) = U at *
    go_enter Tryd.func35, Tryd.ntmps35
    go_wp2_with (go_at_call 48; refine (HU.out _).mono ?_; rintro e w2 ⟨rfl, hb2⟩; have hx2 := HX0.out.below hb2 (by simp); have c0 := hx2.c (j := 0) rfl; have c1 := hx2.c (j := 1) rfl; have c2 := hx2.c (j := 2) rfl; have f0 := hx2.fz 0; have f1 := hx2.fz 1; have f2 := hx2.fz 2; have HX3 := Lib.hid (hx2.three (.int .i64 3) (.int .i64 0) (.string ⟨U.toArray⟩)); have HB3 := Lib.hid (below_three (HB0.out.trans (hb2.mono (by simp))) (Nat.le_refl _) (.int .i64 3) (.int .i64 0) (.string ⟨U.toArray⟩)); clear hb2 hx2)
    have y0 := HX3.out.c (j := 0) rfl
    have y1 := HX3.out.c (j := 1) rfl
    have y2 := HX3.out.c (j := 2) rfl
    refine bodyPost_ret (v := .agg #[.int .i64 3, .int .i64 0, .string ⟨U.toArray⟩]) (by simp only [results, Tryd.results35]; simp [go_sem, y0, y1, y2]) rfl ?_
    exact ⟨by rw [HV.out], HB3.out⟩
  · exact meant_num w s hs hG h1 h2 h
end Go.Proofs.YtnmailhlncchmaaDoor
