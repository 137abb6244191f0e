/-
  What is proved: the walk of the law MarkupEscapes. Conditions: those in each statement.
-/
import Derived.Test.YtbokcihlbpeagaaGreatDoorNm
import Derived.Test.YtbokcihlbpeagaaGreatDoorNo
import Derived.Test.YtbokcihlbpeagaaGreatDoorKc
namespace Go.Proofs.YtbokcihlbpeagaaGreatDoor
open Go.RowKit

theorem one_of {w : World} {B : Nat} {mv : Value} {zs : List (Mk × Value)} {m : Mk} (h : MR w B mv zs) (hz : zs.map Prod.fst = [m]) : ∃ g c u, mv = .slice (some ⟨g, 0, none⟩) 1 c ∧ g < w.heap.size ∧ Elem6 w g 0 m u ∧ AR w B u m.attrs := by
  match zs, hz with
  | [(m', u)], hz =>
    simp only [List.map_cons, List.map_nil, List.cons.injEq, and_true] at hz
    subst hz
    obtain ⟨g, c, e, hg, he, ha⟩ := h.elem (j := 0) (by simp)
    exact ⟨g, c, u, e, hg, he, ha⟩
theorem tag_str {Q : ByteArray} {l : List UInt8} (h : Q.data.toList = 34 :: l ++ [34]) : ((⟨#[60, 97, 32, 98, 61]⟩ : ByteArray) ++ Q ++ ⟨#[47, 62]⟩).data.toList = tagL l := by
  simp [h, tagL]
set_option maxHeartbeats 4000000 in
set_option maxRecDepth 100000 in
theorem escapes_any (w : World) (s : ByteArray) (hG : Glob w) (hs : s.size ≤ 1048576) :
    Calls Tryz.prog 4 #[.string s] w fun e w' => e = .returned (.bool true) ∧ Below w.heap.size w w' := by
  obtain ⟨X, hX⟩ : ∃ X : ByteArray, X = ⟨(escO false s.data.toList).toArray⟩ := ⟨_, rfl⟩
  obtain ⟨Q, hQ⟩ : ∃ Q : ByteArray, Q = ⟨(34 :: escO true s.data.toList ++ [34]).toArray⟩ := ⟨_, rfl⟩
  have hXl : X.data.toList = escO false s.data.toList := by rw [hX]
  have hQl : Q.data.toList = 34 :: escO true s.data.toList ++ [34] := by rw [hQ]
  have HE : Hid (∀ W, Glob W → Calls Tryz.prog 10 #[.string s] W fun e w' => e = .returned (.string X) ∧ Below W.heap.size W w') := Lib.hid (by rw [hX]; exact fun W hW => Escape_any s hs W hW)
  have HQ : Hid (∀ W, Glob W → Calls Tryz.prog 11 #[.string s] W fun e w' => e = .returned (.string Q) ∧ Below W.heap.size W w') := Lib.hid (by rw [hQ]; exact fun W hW => Quote_any s hs W hW)
  have HDE : Hid (∀ W, Calls Tryz.prog 12 #[.string s] W fun e w' => e = .returned (.string X) ∧ Below W.heap.size W w') := Lib.hid (by rw [hX]; exact fun W => dEscape_any s hs W)
  have HDQ : Hid (∀ W, Calls Tryz.prog 13 #[.string s] W fun e w' => e = .returned (.string Q) ∧ Below W.heap.size W w') := Lib.hid (by rw [hQ]; exact fun W => dQuote_any s hs W)
  have HAW := Lib.hid (fun W (hW : Glob W) => awake_any W hW)
  have HG := Lib.hid hG
  have hql := congrArg List.length hQl
  rw [size_toList] at hql
  have hql2 := escO_len true s.data.toList
  rw [size_toList] at hql2
  simp only [List.length_cons, List.length_append, List.length_nil] at hql
  have hQ1 : ¬ 9223372036854775807 < 5 + Q.size := by omega
  have hQ2 : ¬ 9223372036854775807 < 5 + Q.size + 2 := by omega
  have HXL := Lib.hid hXl
  have HQL := Lib.hid hQl
  clear hG hX hQ hql hql2 hXl hQl
  obtain ⟨b, hb⟩ : ∃ b, b = (decide (s.size < 3000) && (chkO s.data.toList).isNone) := ⟨_, rfl⟩
  have HCH := Lib.hid (fun W => chars_any s b hb W)
  cases b with
  | false =>
    clear hb
    go_enter Tryz.func4, Tryz.ntmps4
    go_wp2_with (first
      | (go_at_call 10; refine (HE.out _ HG.out).mono ?_; rintro e w1 ⟨rfl, hb1⟩; have HB1 := Lib.hid hb1; clear hb1)
      | (go_at_call 11; refine (HQ.out _ (HG.out.below HB1.out HG.out.size)).mono ?_; rintro e w2 ⟨rfl, hb2⟩; have HB2 := Lib.hid (HB1.out.trans (hb2.mono HB1.out.size)); clear hb2)
      | (go_at_call 8; refine (HAW.out _ (HG.out.below HB2.out HG.out.size)).mono ?_; rintro e w3 ⟨rfl, hb3⟩; have HB3 := Lib.hid (HB2.out.trans (hb3.mono HB2.out.size)); clear hb3)
      | (go_at_call 12; refine (HDE.out _).mono ?_; rintro e w4 ⟨rfl, hb4⟩; have HB4 := Lib.hid (HB3.out.trans (hb4.mono HB3.out.size)); clear hb4)
      | (go_at_call 13; refine (HDQ.out _).mono ?_; rintro e w5 ⟨rfl, hb5⟩; have HB5 := Lib.hid (HB4.out.trans (hb5.mono HB4.out.size)); clear hb5)
      | (go_at_call 14; refine (HCH.out _).mono ?_; rintro e w6 ⟨rfl, hb6⟩; have HB6 := Lib.hid (HB5.out.trans (hb6.mono HB5.out.size)); clear hb6))
    go_ret
    exact ⟨rfl, HB6.out⟩
  | true =>
    rw [eq_comm, Bool.and_eq_true, decide_eq_true_iff, Option.isNone_iff_eq_none] at hb
    obtain ⟨h3000, hck⟩ := hb
    by_cases hne : s.data.toList = []
    · have hse : (s.toList == ([] : List UInt8)) = true := by rw [Lib.toList_data, hne]; rfl
      clear h3000 hck hne
      go_enter Tryz.func4, Tryz.ntmps4
      go_wp2_with (first
        | (go_at_call 10; refine (HE.out _ HG.out).mono ?_; rintro e w1 ⟨rfl, hb1⟩; have HB1 := Lib.hid hb1; clear hb1)
        | (go_at_call 11; refine (HQ.out _ (HG.out.below HB1.out HG.out.size)).mono ?_; rintro e w2 ⟨rfl, hb2⟩; have HB2 := Lib.hid (HB1.out.trans (hb2.mono HB1.out.size)); clear hb2)
        | (go_at_call 8; refine (HAW.out _ (HG.out.below HB2.out HG.out.size)).mono ?_; rintro e w3 ⟨rfl, hb3⟩; have HB3 := Lib.hid (HB2.out.trans (hb3.mono HB2.out.size)); clear hb3)
        | (go_at_call 12; refine (HDE.out _).mono ?_; rintro e w4 ⟨rfl, hb4⟩; have HB4 := Lib.hid (HB3.out.trans (hb4.mono HB3.out.size)); clear hb4)
        | (go_at_call 13; refine (HDQ.out _).mono ?_; rintro e w5 ⟨rfl, hb5⟩; have HB5 := Lib.hid (HB4.out.trans (hb5.mono HB4.out.size)); clear hb5)
        | (go_at_call 14; refine (HCH.out _).mono ?_; rintro e w6 ⟨rfl, hb6⟩; have HB6 := Lib.hid (HB5.out.trans (hb6.mono HB5.out.size)); clear hb6))
      go_ret
      exact ⟨rfl, HB6.out⟩
    · have hse : (s.toList == ([] : List UInt8)) = false := beq_eq_false_iff_ne.2 (by rw [Lib.toList_data]; exact hne)
      have hg := good_chk hck
      have hl : s.data.toList.length < 3000 := by rw [size_toList]; exact h3000
      have HM1 := Lib.hid (fun W (hW : Glob W) => marks_any W X hW)
      have HM2 := Lib.hid (fun W (hW : Glob W) => marks_any W ((⟨#[60, 97, 32, 98, 61]⟩ : ByteArray) ++ Q ++ ⟨#[47, 62]⟩) hW)
      rw [HXL.out, res_text hg hne hl] at HM1
      rw [tag_str HQL.out, res_tag hg hl] at HM2
      clear h3000 hck hne hg hl
      go_enter Tryz.func4, Tryz.ntmps4
      go_wp2_with (first
        | (go_at_call 10; refine (HE.out _ HG.out).mono ?_; rintro e w1 ⟨rfl, hb1⟩; have HB1 := Lib.hid hb1; clear hb1)
        | (go_at_call 11; refine (HQ.out _ (HG.out.below HB1.out HG.out.size)).mono ?_; rintro e w2 ⟨rfl, hb2⟩; have HB2 := Lib.hid (HB1.out.trans (hb2.mono HB1.out.size)); clear hb2)
        | (go_at_call 8; refine (HAW.out _ (HG.out.below HB2.out HG.out.size)).mono ?_; rintro e w3 ⟨rfl, hb3⟩; have HB3 := Lib.hid (HB2.out.trans (hb3.mono HB2.out.size)); clear hb3)
        | (go_at_call 12; refine (HDE.out _).mono ?_; rintro e w4 ⟨rfl, hb4⟩; have HB4 := Lib.hid (HB3.out.trans (hb4.mono HB3.out.size)); clear hb4)
        | (go_at_call 13; refine (HDQ.out _).mono ?_; rintro e w5 ⟨rfl, hb5⟩; have HB5 := Lib.hid (HB4.out.trans (hb5.mono HB4.out.size)); clear hb5)
        | (go_at_call 14; refine (HCH.out _).mono ?_; rintro e w6 ⟨rfl, hb6⟩; have HB6 := Lib.hid (HB5.out.trans (hb6.mono HB5.out.size)); clear hb6))
      refine (HM1.out _ (HG.out.below HB6.out HG.out.size)).mono ?_
      rintro e w7 ⟨hb7, mv1, B1, zs1, hz1, rfl, -, hmr1⟩
      have HB7 := Lib.hid (HB6.out.trans (hb7.mono HB6.out.size))
      obtain ⟨g1, c1, u1, rfl, hg1, he1, -⟩ := one_of hmr1 hz1
      have HE1 := Lib.hid he1
      have HG1 := Lib.hid hg1
      clear hb7 hmr1 hz1 he1 hg1
      go_wp2_with fail
      refine (HM2.out _ (HG.out.below HB7.out HG.out.size)).mono ?_
      rintro e w8 ⟨hb8, mv2, B2, zs2, hz2, rfl, -, hmr2⟩
      have HB8 := Lib.hid (HB7.out.trans (hb8.mono HB7.out.size))
      obtain ⟨g2, c2, u2, rfl, hg2, he2, ha2⟩ := one_of hmr2 hz2
      obtain ⟨h2, d2, rfl, hh2, -, a1, -⟩ := ha2.elem (j := 0) (by simp)
      have f1 := HE1.out.below HG1.out hb8
      obtain ⟨k0, -, -, -, k4, -⟩ := f1
      obtain ⟨-, -, q2, -, -, -⟩ := he2
      simp only [Nat.zero_mul, Nat.zero_add, List.length_cons, List.length_nil] at k0 k4 q2
      rw [show (⟨s.data.toList.toArray⟩ : ByteArray) = s from Lib.mk_data s] at k4
      have a1' : w8.cell? ⟨h2, 1, none⟩ = some (.string s) := by have := a1; simp only [List.getElem_cons_zero, Nat.zero_mul, Nat.zero_add] at this; rw [show (⟨s.data.toList.toArray⟩ : ByteArray) = s from Lib.mk_data s] at this; exact this
      clear hb8 hmr2 hz2 hg2 ha2 hh2 a1
      go_wp2_with fail
      go_ret
      exact ⟨rfl, HB8.out⟩
end Go.Proofs.YtbokcihlbpeagaaGreatDoor
