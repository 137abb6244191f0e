/-
  What is proved: the law's awake answers true. Conditions: those in each statement.
-/
import Derived.Test.YtbokcihlbpeagaaGreatDoorRv
import Derived.ChangeKeysEq
namespace Go.Proofs.YtbokcihlbpeagaaGreatDoor
open Go.RowKit

theorem chk_ascii (l : List UInt8) (rs : List Int) (hr : ∀ r ∈ rs, isR r) (hl : l = (rs.map put).flatten) (hn : l.length ≤ 65536) (hc : chO l 0 = none) : chkO l = none := by
  have hb := badAt_runes rs hr []
  simp only [List.nil_append, List.length_nil] at hb
  rw [← hl] at hb
  unfold chkO
  rw [if_neg (by omega), if_neg (by rw [hb]; decide), hc]
  rfl
def awA : List UInt8 := [60, 97, 32, 98, 32, 61, 32, 34, 49, 38, 97, 109, 112, 59, 50, 34, 47, 62]
def awB : List UInt8 := [60, 97, 32, 98, 61, 34, 49, 34, 99, 61, 34, 50, 34, 62]
def awC : List UInt8 := [120, 60]
theorem resA : resO awA = .inl [⟨1, [97], [⟨[98], [49, 38, 50], 3⟩], true, [], 0⟩] := by
  have h : chkO awA = none := chk_ascii awA [60, 97, 32, 98, 32, 61, 32, 34, 49, 38, 97, 109, 112, 59, 50, 34, 47, 62] (by decide) (by decide) (by decide) (by decide)
  unfold resO
  rw [h]
  rfl
theorem resB : resO awB = .inr (8, 82) := by
  have h : chkO awB = none := chk_ascii awB [60, 97, 32, 98, 61, 34, 49, 34, 99, 61, 34, 50, 34, 62] (by decide) (by decide) (by decide) (by decide)
  unfold resO
  rw [h]
  rfl
theorem resC : resO awC = .inr (1, 84) := by
  have h : chkO awC = none := chk_ascii awC [120, 60] (by decide) (by decide) (by decide) (by decide)
  unfold resO
  rw [h]
  rfl
/-- one mark with one attribute, in memory -/
structure One (w : World) (g h : Nat) (mk : Mk) (a : At3) : Prop where
  m0 : w.cell? ⟨g, 0, none⟩ = some (.int .i64 (mk.kind : Int))
  m1 : w.cell? ⟨g, 1, none⟩ = some (.string ⟨mk.name.toArray⟩)
  m2 : ∃ c, w.cell? ⟨g, 2, none⟩ = some (.slice (some ⟨h, 0, none⟩) 1 c)
  m3 : w.cell? ⟨g, 3, none⟩ = some (.bool mk.empty)
  a0 : w.cell? ⟨h, 0, none⟩ = some (.string ⟨a.name.toArray⟩)
  a1 : w.cell? ⟨h, 1, none⟩ = some (.string ⟨a.value.toArray⟩)
  a2 : w.cell? ⟨h, 2, none⟩ = some (.int .i64 (a.at_ : Int))
  lt : g < w.heap.size ∧ h < w.heap.size
theorem One.below {w w' : World} {g h : Nat} {mk : Mk} {a : At3} (o : One w g h mk a) (hb : Below w.heap.size w w') : One w' g h mk a := by
  have e1 := fun j => hb.cell (p := ⟨g, j, none⟩) o.lt.1
  have e2 := fun j => hb.cell (p := ⟨h, j, none⟩) o.lt.2
  obtain ⟨c, hc⟩ := o.m2
  exact ⟨(e1 0).trans o.m0, (e1 1).trans o.m1, ⟨c, (e1 2).trans hc⟩, (e1 3).trans o.m3, (e2 0).trans o.a0, (e2 1).trans o.a1, (e2 2).trans o.a2, by have := hb.size; have := o.lt; omega⟩
theorem One.of {w : World} {B : Nat} {mv : Value} {zs : List (Mk × Value)} {mk : Mk} {a : At3} (h : MR w B mv zs) (hz : zs.map Prod.fst = [mk]) (ha : mk.attrs = [a]) : ∃ g c q, mv = .slice (some ⟨g, 0, none⟩) 1 c ∧ One w g q mk a := by
  match zs, hz with
  | [(mk', av)], hz =>
    simp only [List.map_cons, List.map_nil, List.cons.injEq, and_true] at hz
    subst hz
    have h2 := h.att (mk', av) (by simp)
    unfold AR at h2
    simp only [ha] at h2
    obtain ⟨g, c, rfl, _, hg⟩ := h.row.form (by simp)
    obtain ⟨q, c2, rfl, _, hq⟩ := h2.form (by simp)
    refine ⟨g, c, q, rfl, ?_, ?_, ⟨c2, ?_⟩, ?_, ?_, ?_, ?_, hg, hq⟩
    · exact h.row.cells (g := g) rfl 0 _ rfl
    · exact h.row.cells (g := g) rfl 1 _ rfl
    · exact h.row.cells (g := g) rfl 2 _ rfl
    · exact h.row.cells (g := g) rfl 3 _ rfl
    · exact h2.cells (g := q) rfl 0 _ rfl
    · exact h2.cells (g := q) rfl 1 _ rfl
    · exact h2.cells (g := q) rfl 2 _ rfl
set_option maxHeartbeats 4000000 in
set_option maxRecDepth 100000 in
theorem awake_any (w : World) (hG : Glob w) : Calls Tryz.prog 8 #[] w fun e w' => e = .returned (.bool true) ∧ Below w.heap.size w w' := by
  have HA := Lib.hid (fun W (hW : Glob W) => marks_any W ⟨awA.toArray⟩ hW)
  have HB := Lib.hid (fun W (hW : Glob W) => marks_any W ⟨awB.toArray⟩ hW)
  have HC := Lib.hid (fun W (hW : Glob W) => marks_any W ⟨awC.toArray⟩ hW)
  rw [show (⟨awA.toArray⟩ : ByteArray).data.toList = awA from rfl, resA] at HA
  rw [show (⟨awB.toArray⟩ : ByteArray).data.toList = awB from rfl, resB] at HB
  rw [show (⟨awC.toArray⟩ : ByteArray).data.toList = awC from rfl, resC] at HC
  rw [show (⟨awA.toArray⟩ : ByteArray) = ⟨#[60, 97, 32, 98, 32, 61, 32, 34, 49, 38, 97, 109, 112, 59, 50, 34, 47, 62]⟩ from rfl] at HA
  rw [show (⟨awB.toArray⟩ : ByteArray) = ⟨#[60, 97, 32, 98, 61, 34, 49, 34, 99, 61, 34, 50, 34, 62]⟩ from rfl] at HB
  rw [show (⟨awC.toArray⟩ : ByteArray) = ⟨#[120, 60]⟩ from rfl] at HC
  have HG := Lib.hid hG
  clear hG
  go_enter Tryz.func8, Tryz.ntmps8
  go_wp2_with fail
  refine (HA.out _ HG.out).mono ?_
  rintro e w1 ⟨hb1, mv, B, zs, hz, rfl, -, hmr⟩
  obtain ⟨g, c, q, rfl, ho⟩ := One.of (a := ⟨[98], [49, 38, 50], 3⟩) hmr hz rfl
  have HO1 := Lib.hid ho
  have HB1 := Lib.hid hb1
  have HG1 := Lib.hid (HG.out.below hb1 HG.out.size)
  clear hmr ho hb1 hz
  go_wp2_with fail
  refine (HB.out _ HG1.out).mono ?_
  rintro e w2 ⟨hb2, rfl⟩
  have HO2 := Lib.hid (HO1.out.below hb2)
  have HB2 := Lib.hid (HB1.out.trans (hb2.mono HB1.out.size))
  have HG2 := Lib.hid (HG1.out.below hb2 HG1.out.size)
  clear hb2
  go_wp2_with fail
  refine (HC.out _ HG2.out).mono ?_
  rintro e w3 ⟨hb3, rfl⟩
  have ho := HO2.out.below hb3
  have HB3 := Lib.hid (HB2.out.trans (hb3.mono HB2.out.size))
  clear hb3
  have m0 := ho.m0
  have m1 := ho.m1
  obtain ⟨c2, m2⟩ := ho.m2
  have m3 := ho.m3
  have a0 := ho.a0
  have a1 := ho.a1
  have a2 := ho.a2
  clear ho HO1 HO2 HA HB HC
  simp only at m0 m1 m2 m3 a0 a1 a2
  go_wp2_with fail
  go_ret
  exact ⟨rfl, HB3.out⟩
end Go.Proofs.YtbokcihlbpeagaaGreatDoor
