/-
  What is proved: contract of the law's awake: it answers true. Conditions: those in each statement.
-/
import Derived.Test.YtnmailhlncchmaaDoorXh
namespace Go.Proofs.YtnmailhlncchmaaDoor
open Go.RowKit

theorem par_awake1 : parV [34, 97, 92, 34, 98, 34] = some ⟨3, 0, ⟨#[97, 34, 98]⟩⟩ :=
  (par_iff (v := ⟨3, 0, ⟨#[97, 34, 98]⟩⟩) ⟨by decide, by decide⟩).2 ⟨by decide +kernel, by decide +kernel⟩
theorem mea_awake2 : meaV [48, 53] = ⟨1, 5, ⟨#[]⟩⟩ := rfl
theorem par_awake2 : parV [48, 53] = none := by
  unfold parV
  rw [if_neg (by decide), mea_awake2, if_neg]
  rintro ⟨_, h⟩
  have : prV ⟨1, 5, ⟨#[]⟩⟩ = [53] := by
    rw [pr_int (by decide)]
    unfold Lib.itoa
    rw [if_neg (by decide)]
    exact Lib.decDigits_one (by decide)
  rw [this] at h
  exact absurd h (by decide)
theorem pr_awake : prV ⟨1, -5, ⟨#[]⟩⟩ = [45, 53] := by
  rw [pr_int (by decide)]
  unfold Lib.itoa
  rw [if_pos (by decide)]
  exact congrArg (45 :: ·) (Lib.decDigits_one (i := 5) (by decide))
def awL : List Vr := [⟨⟨#[97]⟩, ⟨1, 1, ⟨#[]⟩⟩⟩]
theorem aw_vars : (varsB awL && nameB [98]) = true := by decide +kernel
theorem aw_less : bl ⟨#[97]⟩ ⟨#[98]⟩ = true := by decide +kernel
theorem aw_spot {p : Nat} (h : Spot awL ⟨#[98]⟩ p) : p = 1 := by
  obtain ⟨h1, h2, h3⟩ := h
  have h1' : p ≤ 1 := h1
  rcases Nat.eq_zero_or_pos p with rfl | h0
  · have := h3 0 (by decide) (Nat.le_refl _)
    rw [show bl awL[0].nm ⟨#[98]⟩ = true from aw_less] at this
    cases this
  · omega
theorem aw_with {r : List Vr} (h : WithIs awL ⟨#[98]⟩ ⟨2, 1, ⟨#[]⟩⟩ r) : r = [⟨⟨#[97]⟩, ⟨1, 1, ⟨#[]⟩⟩⟩, ⟨⟨#[98]⟩, ⟨2, 1, ⟨#[]⟩⟩⟩] := by
  rcases h with ⟨h, _⟩ | ⟨_, p, hp, rfl⟩
  · have := aw_vars
    rw [show nameB (⟨#[98]⟩ : ByteArray).data.toList = nameB [98] from rfl, this] at h
    cases h
  · obtain rfl := aw_spot hp
    rfl
theorem aw_ins (p : Nat) (_ : varsB awL = true) (h : Spot awL ⟨#[98]⟩ p) (_ : foundB awL ⟨#[98]⟩ p = false) : Insertable awL p ⟨⟨#[98]⟩, ⟨2, 1, ⟨#[]⟩⟩⟩ := by
  obtain rfl := aw_spot h
  exact insert_end awL _ (by decide)
theorem aw_name {w : World} {B g c : Nat} (h : OwR w B (some ⟨g, 0, none⟩) 2 c [⟨⟨#[97]⟩, ⟨1, 1, ⟨#[]⟩⟩⟩, ⟨⟨#[98]⟩, ⟨2, 1, ⟨#[]⟩⟩⟩]) : w.cell? ⟨g, 4, none⟩ = some (.string ⟨#[98]⟩) := by
  obtain ⟨b, o, e, _, h0, _⟩ := h.hr.1.elem 1 (by decide)
  cases e
  exact h0
set_option maxHeartbeats 16000000 in
set_option maxRecDepth 100000 in
theorem awake_any (w : World) (hG : Glob w) : Calls Tryd.prog 9 #[] w fun e w' => e = .returned (.bool true) ∧ Below w.heap.size w w' := by
  have HG := Lib.hid hG
  have HP1 : Hid (∀ W, Glob W → Calls Tryd.prog 17 #[.string ⟨#[34, 97, 92, 34, 98, 34]⟩] W fun e w' => e = .returned (.tuple #[.agg #[.int .i64 3, .int .i64 0, .string ⟨#[97, 34, 98]⟩], .bool true]) ∧ Below W.heap.size W w') := Lib.hid (fun W hW => by
    have := parse_any W ⟨#[34, 97, 92, 34, 98, 34]⟩ hW
    rw [show (⟨#[34, 97, 92, 34, 98, 34]⟩ : ByteArray).data.toList = [34, 97, 92, 34, 98, 34] from rfl, par_awake1] at this
    exact this)
  have HP2 : Hid (∀ W, Glob W → Calls Tryd.prog 17 #[.string ⟨#[48, 53]⟩] W fun e w' => e = .returned (.tuple #[.agg #[.int .i64 0, .int .i64 0, .string ⟨#[]⟩], .bool false]) ∧ Below W.heap.size W w') := Lib.hid (fun W hW => by
    have := parse_any W ⟨#[48, 53]⟩ hW
    rw [show (⟨#[48, 53]⟩ : ByteArray).data.toList = [48, 53] from rfl, par_awake2] at this
    exact this)
  have HPR : Hid (∀ W, Glob W → Calls Tryd.prog 12 #[.agg #[.int .i64 1, .int .i64 (-5), .string ⟨#[]⟩]] W fun e w' => e = .returned (.string ⟨#[45, 53]⟩) ∧ Below W.heap.size W w') := Lib.hid (fun W hW => by
    have := print_any W 1 (-5) ⟨#[]⟩ ⟨by decide, by decide⟩ hW
    rw [pr_awake] at this
    exact this)
  have HWI : Hid (∀ (W : World) (b : Nat), HR W (some ⟨b, 0, none⟩) 1 1 awL → Calls Tryd.prog 24 #[.slice (some ⟨b, 0, none⟩) 1 1, .string ⟨#[98]⟩, .agg #[.int .i64 2, .int .i64 1, .string ⟨#[]⟩]] W (WPost W awL ⟨#[98]⟩ ⟨2, 1, ⟨#[]⟩⟩)) := Lib.hid (fun W b hW => with_core W _ 1 1 awL _ _ _ _ hW (fun e => by cases e) (by decide) aw_ins)
  have HN1 := Lib.hid (fun W => name_any W ⟨#[97, 45, 49]⟩)
  rw [show nameB (⟨#[97, 45, 49]⟩ : ByteArray).data.toList = true by decide +kernel] at HN1
  have HN2 := Lib.hid (fun W => name_any W ⟨#[45, 97]⟩)
  rw [show nameB (⟨#[45, 97]⟩ : ByteArray).data.toList = false by decide +kernel] at HN2
  clear hG
  go_enter Tryd.func9, Tryd.ntmps9
  go_wp2_with (first
    | (go_at_call 12; refine (HPR.out _ (HG.out.below HB3.out HG.out.size)).mono ?_; rintro e w4 ⟨rfl, hb4⟩; have hv4 := HV3.out.below hb4 HV3.out.lt; have d0 := hv4.c (j := 0) rfl; have d1 := hv4.c (j := 1) rfl; have d2 := hv4.c (j := 2) rfl; have g4 := aw_name (HO3.out.below hb4); have HB4 := Lib.hid (HB3.out.trans (hb4.mono HB3.out.size)); clear hb4 hv4)
    | (go_at_call 24; refine (HWI.out _ _ (HR.new (w2.alloc (.cells #[.int .i64 0, .int .i64 0, .string ⟨#[]⟩] 23 (0, 0))) awL #[.string ⟨#[97]⟩, .int .i64 1, .int .i64 1, .string ⟨#[]⟩] rfl 42 _ 1 (by simp) rfl)).mono ?_; rintro e w3 ⟨r, A3, c3, hr, rfl, ho3, hb3⟩; obtain rfl := aw_with hr; obtain ⟨g, rfl, hg1, hg2, hg3⟩ := ho3.place (by decide); have HO3 := Lib.hid ho3; have HV3 := Lib.hid ((((HV2.out.alloc (.cells #[.int .i64 0, .int .i64 0, .string ⟨#[]⟩] 23 (0, 0))).alloc (.cells #[.string ⟨#[97]⟩, .int .i64 1, .int .i64 1, .string ⟨#[]⟩] 42 (0, 0)))).below hb3 (by have := HV2.out.lt; simp; omega)); have HB3 := Lib.hid (((HB2.out.alloc HB2.out.size (.cells #[.int .i64 0, .int .i64 0, .string ⟨#[]⟩] 23 (0, 0))).alloc (by have := HB2.out.size; simp; omega) (.cells #[.string ⟨#[97]⟩, .int .i64 1, .int .i64 1, .string ⟨#[]⟩] 42 (0, 0))).trans (hb3.mono (by have := HB2.out.size; simp; omega))); clear hr hg1 hg2 hg3 ho3 hb3)
    | (go_at_call 17; refine (HP2.out _ (HG.out.below (HB1.out.alloc HB1.out.size (.cells #[.int .i64 3, .int .i64 0, .string ⟨#[97, 34, 98]⟩] 23 (0, 0))) HG.out.size)).mono ?_; rintro e w2 ⟨rfl, hb2⟩; have HV2 := Lib.hid ((Bx.new w1 23 #[.int .i64 3, .int .i64 0, .string ⟨#[97, 34, 98]⟩]).below hb2 (by simp)); have HB2 := Lib.hid ((HB1.out.alloc HB1.out.size (.cells #[.int .i64 3, .int .i64 0, .string ⟨#[97, 34, 98]⟩] 23 (0, 0))).trans (hb2.mono (by have := HB1.out.size; simp; omega))); clear hb2)
    | (go_at_call 17; refine (HP1.out _ HG.out).mono ?_; rintro e w1 ⟨rfl, hb1⟩; have HB1 := Lib.hid hb1; clear hb1))
  refine (HN1.out _).mono ?_
  rintro e w5 ⟨rfl, rfl⟩
  go_wp2_with fail
  refine (HN2.out _).mono ?_
  rintro e w5 ⟨rfl, rfl⟩
  go_wp2_with fail
  go_ret
  exact ⟨rfl, HB4.out⟩
end Go.Proofs.YtnmailhlncchmaaDoor
