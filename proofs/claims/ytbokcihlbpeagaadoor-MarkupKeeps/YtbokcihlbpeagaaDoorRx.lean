/-
  What is proved: the walk of the law MarkupFaults, given what is known of faults' places. Conditions: those in each statement.
-/
import Derived.Test.YtbokcihlbpeagaaDoorRw
namespace Go.Proofs.YtbokcihlbpeagaaDoor
open Go.RowKit

/-- a fault's place and its number -/
def FltOk (l : List UInt8) : Prop := ∀ x c, resO l = .inr (x, c) → x < l.length ∧ 0 < c ∧ c < 1000 ∧ (c = 82 ∨ c = 83 → (∃ ms, resO (l.take x) = .inl ms) ∨ ∃ y, resO (l.take x) = .inr (y, 84))
set_option maxHeartbeats 4000000 in
set_option maxRecDepth 100000 in
theorem faults_any (w : World) (s : ByteArray) (hG : Glob w) (hs : s.size ≤ 9223372036854775807) (hF : FltOk s.data.toList) :
    Calls Tryd.prog 3 #[.string s] w fun e w' => e = .returned (.bool true) ∧ Below w.heap.size w w' := by
  have HM := Lib.hid (marks_any w s hG)
  have HG := Lib.hid hG
  have HAW := Lib.hid (fun W (hW : Glob W) => awake_any W hW)
  cases hr : resO s.data.toList with
  | inl ms =>
    rw [hr] at HM
    clear hr hF hG
    go_enter Tryd.func3, Tryd.ntmps3
    go_wp2_with fail
    refine HM.out.mono ?_
    rintro e w1 ⟨hb1, mv, B, zs, hz, rfl, -, hmr⟩
    have HB1 := Lib.hid hb1
    clear hb1 hz hmr
    go_wp2_with fail
    refine (HAW.out _ (HG.out.below HB1.out HG.out.size)).mono ?_
    rintro e w2 ⟨rfl, hb2⟩
    have HB2 := Lib.hid (HB1.out.trans (hb2.mono HB1.out.size))
    clear hb2
    go_wp2_with fail
    go_ret
    exact ⟨rfl, HB2.out⟩
  | inr xc =>
    obtain ⟨x, c⟩ := xc
    obtain ⟨hx, hc0, hc1, hF2⟩ := hF x c hr
    rw [size_toList] at hx
    rw [hr] at HM
    have n0 : (c == 0) = false := beq_eq_false_iff_ne.2 (by omega)
    have hxz : (x : Int) < (s.size : Int) := by omega
    have hxn : ¬ (s.size : Int) ≤ (x : Int) := by omega
    have hx0 : ¬ (x : Int) < 0 := by omega
    have hx1 : (0 : Int) ≤ (x : Int) := by omega
    by_cases hc : c = 82 ∨ c = 83
    · have hF3 := hF2 hc
      have hl : (s.extract 0 x).data.toList = s.data.toList.take x := by rw [Lib.extract_data]; simp
      have HMg := Lib.hid (fun W (hW : Glob W) => marks_any W (s.extract 0 x) hW)
      rw [hl] at HMg
      have HX : Hid ((∃ ms, resO (s.data.toList.take x) = .inl ms) ∨ ∃ y, resO (s.data.toList.take x) = .inr (y, 84)) := Lib.hid hF3
      clear hF hF2 hF3 hr hl hG hc1
      generalize resO (s.data.toList.take x) = R at *
      rcases HX.out with ⟨ms, rfl⟩ | ⟨y, rfl⟩
      · clear HX
        rcases hc with rfl | rfl
        all_goals
          go_enter Tryd.func3, Tryd.ntmps3
          go_wp2_with fail
          refine HM.out.mono ?_
          rintro e w1 ⟨hb1, rfl⟩
          have HB1 := Lib.hid hb1
          clear hb1
          go_wp2_with fail
          refine (HAW.out _ (HG.out.below HB1.out HG.out.size)).mono ?_
          rintro e w2 ⟨rfl, hb2⟩
          have HB2 := Lib.hid (HB1.out.trans (hb2.mono HB1.out.size))
          clear hb2
          go_wp2_with fail
          refine (HMg.out _ (HG.out.below HB2.out HG.out.size)).mono ?_
          rintro e w3 ⟨hb3, mv, B, zs, hz, rfl, -, hmr⟩
          have HB3 := Lib.hid (HB2.out.trans (hb3.mono HB2.out.size))
          clear hb3 hz hmr
          go_wp2_with fail
          go_ret
          exact ⟨rfl, HB3.out⟩
      · clear HX
        rcases hc with rfl | rfl
        all_goals
          go_enter Tryd.func3, Tryd.ntmps3
          go_wp2_with fail
          refine HM.out.mono ?_
          rintro e w1 ⟨hb1, rfl⟩
          have HB1 := Lib.hid hb1
          clear hb1
          go_wp2_with fail
          refine (HAW.out _ (HG.out.below HB1.out HG.out.size)).mono ?_
          rintro e w2 ⟨rfl, hb2⟩
          have HB2 := Lib.hid (HB1.out.trans (hb2.mono HB1.out.size))
          clear hb2
          go_wp2_with fail
          refine (HMg.out _ (HG.out.below HB2.out HG.out.size)).mono ?_
          rintro e w3 ⟨hb3, rfl⟩
          have HB3 := Lib.hid (HB2.out.trans (hb3.mono HB2.out.size))
          clear hb3
          go_wp2_with fail
          go_ret
          exact ⟨rfl, HB3.out⟩
    · have n82 : (c == 82) = false := beq_eq_false_iff_ne.2 (by omega)
      have n83 : (c == 83) = false := beq_eq_false_iff_ne.2 (by omega)
      have m82 : (c != 82) = true := bne_iff_ne.2 (by omega)
      have m83 : (c != 83) = true := bne_iff_ne.2 (by omega)
      clear hF hF2 hr hc hG hc0 hc1
      go_enter Tryd.func3, Tryd.ntmps3
      go_wp2_with fail
      refine HM.out.mono ?_
      rintro e w1 ⟨hb1, rfl⟩
      have HB1 := Lib.hid hb1
      clear hb1
      go_wp2_with fail
      refine (HAW.out _ (HG.out.below HB1.out HG.out.size)).mono ?_
      rintro e w2 ⟨rfl, hb2⟩
      have HB2 := Lib.hid (HB1.out.trans (hb2.mono HB1.out.size))
      clear hb2
      go_wp2_with fail
      go_ret
      exact ⟨rfl, HB2.out⟩
end Go.Proofs.YtbokcihlbpeagaaDoor
