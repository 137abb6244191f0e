/-
  What is proved: contract of value's Parse. Conditions: those in each statement.
-/
import Derived.Test.YtnmailhlncchmaaDoorXo
namespace Go.Proofs.YtnmailhlncchmaaDoor
open Go.RowKit

def oV (o : Option Val) : Val := o.getD ⟨0, 0, ⟨#[]⟩⟩
/-- what a reader answers -/
def PPost (w : World) (o : Option Val) (e : Ending) (w' : World) : Prop := e = .returned (.tuple #[.agg #[.int .i64 (oV o).k, .int .i64 (oV o).n, .string (oV o).s], .bool o.isSome]) ∧ Below w.heap.size w w'
set_option maxHeartbeats 8000000 in
set_option maxRecDepth 100000 in
theorem parse_any (w : World) (s : ByteArray) (hG : Glob w) : Calls Tryd.prog 17 #[.string s] w (PPost w (parV s.data.toList)) := by
  by_cases h130 : 130 < s.size
  · have HV : Hid (parV s.data.toList = none) := Lib.hid (by unfold parV; rw [size_toList, if_pos h130])
    have hz : (130 : Int) < (s.size : Int) := by omega
    clear h130
    go_enter Tryd.func17, Tryd.ntmps17
    go_wp2
    refine bodyPost_ret (v := .tuple #[.agg #[.int .i64 0, .int .i64 0, .string ⟨#[]⟩], .bool false]) (by simp only [results, Tryd.results17]; simp [go_sem]) rfl ?_
    exact ⟨by rw [HV.out]; rfl, (Below.refl _ _).alloc (Nat.le_refl _) _⟩
  · have hz : ¬ (130 : Int) < (s.size : Int) := by omega
    have HV : Hid (parV s.data.toList = if mayV (meaV s.data.toList) = true ∧ prV (meaV s.data.toList) = s.data.toList then some (meaV s.data.toList) else none) := Lib.hid (by unfold parV; rw [size_toList, if_neg h130])
    have hin := mea_in s.data.toList
    have HME := Lib.hid (fun W hG => meant_any W s (by omega) hG)
    generalize meaV s.data.toList = m at *
    obtain ⟨k, n, t⟩ := m
    simp only at hin
    have HMA := Lib.hid (fun W => may_any W k n t)
    have HPR := Lib.hid (fun W hG => print_any W k n t hin hG)
    have HB0 : Hid (Below w.heap.size w (w.alloc (.cells #[.int .i64 0, .int .i64 0, .string ⟨#[]⟩] 23 (0, 0)))) := Lib.hid ((Below.refl _ _).alloc (Nat.le_refl _) _)
    have HX0 := Lib.hid (Bx.new w 23 #[.int .i64 0, .int .i64 0, .string ⟨#[]⟩])
    have HG0 : Hid (Glob (w.alloc (.cells #[.int .i64 0, .int .i64 0, .string ⟨#[]⟩] 23 (0, 0)))) := Lib.hid (hG.below HB0.out hG.size)
    have HG := Lib.hid hG
    clear hG
    cases hm : mayV ⟨k, n, t⟩ with
    | false =>
      rw [hm] at HMA HV
      clear hm HPR
      go_enter Tryd.func17, Tryd.ntmps17
      go_wp2_with (first
        | (go_at_call 35; refine (HME.out _ HG0.out).mono ?_; rintro e w2 ⟨rfl, hb2⟩; have HX2 := Lib.hid (HX0.out.below hb2 (by simp)); have HB2 := Lib.hid (HB0.out.trans (hb2.mono (by simp))); clear hb2)
        | (go_at_call 10; refine (HMA.out _).mono ?_; rintro e w4 ⟨rfl, hb4⟩; have hx2 := (HX2.out.alloc (.cells #[.int .i64 k, .int .i64 n, .string t] 23 (0, 0))).below hb4 (by have := HB2.out.size; have := HX2.out.lt; simp; omega); have c0 := hx2.c (j := 0) rfl; have c1 := hx2.c (j := 1) rfl; have c2 := hx2.c (j := 2) rfl; have f0 := hx2.fz 0; have f1 := hx2.fz 1; have f2 := hx2.fz 2; have HX3 := Lib.hid (hx2.three (.int .i64 0) (.int .i64 0) (.string ⟨#[]⟩)); have HB3 := Lib.hid (below_three ((HB2.out.alloc HB2.out.size (.cells #[.int .i64 k, .int .i64 n, .string t] 23 (0, 0))).trans (hb4.mono (by have := HB2.out.size; simp; omega))) (Nat.le_refl _) (.int .i64 0) (.int .i64 0) (.string ⟨#[]⟩)); clear hb4 hx2))
      have y0 := HX3.out.c (j := 0) rfl
      have y1 := HX3.out.c (j := 1) rfl
      have y2 := HX3.out.c (j := 2) rfl
      refine bodyPost_ret (v := .tuple #[.agg #[.int .i64 0, .int .i64 0, .string ⟨#[]⟩], .bool false]) (by simp only [results, Tryd.results17]; simp [go_sem, y0, y1, y2]) rfl ?_
      exact ⟨by rw [HV.out]; rfl, HB3.out⟩
    | true =>
      rw [hm] at HMA HV
      clear hm
      by_cases hp : prV ⟨k, n, t⟩ = s.data.toList
      · rw [hp] at HPR HV
        rw [show (⟨s.data.toList.toArray⟩ : ByteArray) = s from ba_ext rfl] at HPR
        clear hp
        go_enter Tryd.func17, Tryd.ntmps17
        go_wp2_with (first
          | (go_at_call 35; refine (HME.out _ HG0.out).mono ?_; rintro e w2 ⟨rfl, hb2⟩; have HX2 := Lib.hid (HX0.out.below hb2 (by simp)); have HB2 := Lib.hid (HB0.out.trans (hb2.mono (by simp))); clear hb2)
          | (go_at_call 10; refine (HMA.out _).mono ?_; rintro e w4 ⟨rfl, hb4⟩; have HX4 := Lib.hid ((HX2.out.alloc (.cells #[.int .i64 k, .int .i64 n, .string t] 23 (0, 0))).below hb4 (by have := HX2.out.lt; simp; omega)); have HV4 := Lib.hid ((Bx.new w2 23 #[.int .i64 k, .int .i64 n, .string t]).below hb4 (by simp)); have d0 := HV4.out.c (j := 0) rfl; have d1 := HV4.out.c (j := 1) rfl; have d2 := HV4.out.c (j := 2) rfl; have HB4 := Lib.hid ((HB2.out.alloc HB2.out.size (.cells #[.int .i64 k, .int .i64 n, .string t] 23 (0, 0))).trans (hb4.mono (by have := HB2.out.size; simp; omega))); clear hb4)
          | (go_at_call 12; refine (HPR.out _ (HG.out.below HB4.out HG.out.size)).mono ?_; rintro e w5 ⟨rfl, hb5⟩; have hx2 := HX4.out.below hb5 HX4.out.lt; have hv5 := HV4.out.below hb5 HV4.out.lt; have g0 := hv5.c (j := 0) rfl; have g1 := hv5.c (j := 1) rfl; have g2 := hv5.c (j := 2) rfl; have c0 := hx2.c (j := 0) rfl; have c1 := hx2.c (j := 1) rfl; have c2 := hx2.c (j := 2) rfl; have f0 := hx2.fz 0; have f1 := hx2.fz 1; have f2 := hx2.fz 2; have HX3 := Lib.hid (hx2.three (.int .i64 k) (.int .i64 n) (.string t)); have HB3 := Lib.hid (below_three (HB4.out.trans (hb5.mono HB4.out.size)) (Nat.le_refl _) (.int .i64 k) (.int .i64 n) (.string t)); clear hb5 hx2 hv5))
        have y0 := HX3.out.c (j := 0) rfl
        have y1 := HX3.out.c (j := 1) rfl
        have y2 := HX3.out.c (j := 2) rfl
        refine bodyPost_ret (v := .tuple #[.agg #[.int .i64 k, .int .i64 n, .string t], .bool true]) (by simp only [results, Tryd.results17]; simp [go_sem, y0, y1, y2]) rfl ?_
        exact ⟨by rw [HV.out]; rfl, HB3.out⟩
      · have HV2 : Hid (parV s.data.toList = none) := Lib.hid (by rw [HV.out, if_neg (fun e => hp e.2)])
        clear HV
        have HV := HV2
        have hne : ((⟨(prV ⟨k, n, t⟩).toArray⟩ : ByteArray).toList == s.toList) = false := by
          refine beq_eq_false_iff_ne.2 (fun e => hp ?_)
          rw [ByteArray.toList_eq, ByteArray.toList_eq] at e
          simpa using e
        clear hp HV2
        generalize (⟨(prV ⟨k, n, t⟩).toArray⟩ : ByteArray) = P at *
        go_enter Tryd.func17, Tryd.ntmps17
        go_wp2_with (first
          | (go_at_call 35; refine (HME.out _ HG0.out).mono ?_; rintro e w2 ⟨rfl, hb2⟩; have HX2 := Lib.hid (HX0.out.below hb2 (by simp)); have HB2 := Lib.hid (HB0.out.trans (hb2.mono (by simp))); clear hb2)
          | (go_at_call 10; refine (HMA.out _).mono ?_; rintro e w4 ⟨rfl, hb4⟩; have HX4 := Lib.hid ((HX2.out.alloc (.cells #[.int .i64 k, .int .i64 n, .string t] 23 (0, 0))).below hb4 (by have := HX2.out.lt; simp; omega)); have HV4 := Lib.hid ((Bx.new w2 23 #[.int .i64 k, .int .i64 n, .string t]).below hb4 (by simp)); have d0 := HV4.out.c (j := 0) rfl; have d1 := HV4.out.c (j := 1) rfl; have d2 := HV4.out.c (j := 2) rfl; have HB4 := Lib.hid ((HB2.out.alloc HB2.out.size (.cells #[.int .i64 k, .int .i64 n, .string t] 23 (0, 0))).trans (hb4.mono (by have := HB2.out.size; simp; omega))); clear hb4)
          | (go_at_call 12; refine (HPR.out _ (HG.out.below HB4.out HG.out.size)).mono ?_; rintro e w5 ⟨rfl, hb5⟩; have hx2 := HX4.out.below hb5 HX4.out.lt; have hv5 := HV4.out.below hb5 HV4.out.lt; have g0 := hv5.c (j := 0) rfl; have g1 := hv5.c (j := 1) rfl; have g2 := hv5.c (j := 2) rfl; have c0 := hx2.c (j := 0) rfl; have c1 := hx2.c (j := 1) rfl; have c2 := hx2.c (j := 2) rfl; have f0 := hx2.fz 0; have f1 := hx2.fz 1; have f2 := hx2.fz 2; have HX3 := Lib.hid (hx2.three (.int .i64 0) (.int .i64 0) (.string ⟨#[]⟩)); have HB3 := Lib.hid (below_three (HB4.out.trans (hb5.mono HB4.out.size)) (Nat.le_refl _) (.int .i64 0) (.int .i64 0) (.string ⟨#[]⟩)); clear hb5 hx2 hv5))
        have y0 := HX3.out.c (j := 0) rfl
        have y1 := HX3.out.c (j := 1) rfl
        have y2 := HX3.out.c (j := 2) rfl
        refine bodyPost_ret (v := .tuple #[.agg #[.int .i64 0, .int .i64 0, .string ⟨#[]⟩], .bool false]) (by simp only [results, Tryd.results17]; simp [go_sem, y0, y1, y2]) rfl ?_
        exact ⟨by rw [HV.out]; rfl, HB3.out⟩
end Go.Proofs.YtnmailhlncchmaaDoor
