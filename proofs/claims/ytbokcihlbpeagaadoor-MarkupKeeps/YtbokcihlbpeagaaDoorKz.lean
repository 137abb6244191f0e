/-
  What is proved: MarkupKeeps answers true, and each argument reads behind the call as before it, for every input (the first form of the statement; the card). No condition.
-/
import Derived.Test.YtbokcihlbpeagaaDoorRy
import Derived.Test.YtbokcihlbpeagaaDoorKw
import Derived.Test.YtbokcihlbpeagaaDoorOpen
import Derived.Test.YtbokcihlbpeagaaDoorCards
import Derived.Test.YtbokcihlbpeagaaDoorTie
import Derived.LaidMore
import Derived.WalkKit
import Derived.ProofKit
import Derived.Deep.DeepHandedRow
import Derived.Deep.DeepWitnessRowRef
namespace Go.Proofs.YtbokcihlbpeagaaDoor
open Go.ChangeShapes Go.WideShapes Go.ChangeAt Go.RowKit
open Go.ChangeMaps (open_string shut_string)

theorem keeps_any (w : World) (s : ByteArray) (hG : Glob w) (hm : s.size ≤ 9223372036854775807) :
    Calls Tryd.prog 4 #[.string s] w fun e w' => e = .returned (.bool true) ∧ Below w.heap.size w w' := by
  by_cases h1 : 60000 < s.size
  · exact keeps_long w s hG h1 hm
  have hs : s.size ≤ 60000 := by omega
  have hraw := Lib.hasPrefix_raw s ⟨#[60, 63, 120, 109, 108]⟩
  have e5 : (⟨#[60, 63, 120, 109, 108]⟩ : ByteArray).size = 5 := rfl
  have eL : (⟨#[60, 63, 120, 109, 108]⟩ : ByteArray).toList = [60, 63, 120, 109, 108] := by rw [Lib.toList_data]
  have eD : (⟨#[60, 63, 120, 109, 108]⟩ : ByteArray).data.toList = [60, 63, 120, 109, 108] := rfl
  rw [e5, eL, eD] at hraw
  by_cases h5 : 4 < s.size
  · by_cases hx : ((s.extract 0 5).toList == ([60, 63, 120, 109, 108] : List UInt8)) = true
    · exact keeps_decl w s hG hs h5 hx
    · have hx : ((s.extract 0 5).toList == ([60, 63, 120, 109, 108] : List UInt8)) = false := by simpa using hx
      have hpx : Lib.hasPrefix s.data.toList [60, 63, 120, 109, 108] = false := by rw [← hraw, hx, Bool.and_false]
      cases hr : resO s.data.toList with
      | inl ms => exact keeps_okL w s hG hs h5 hx hpx ms hr
      | inr xc =>
        obtain ⟨x, c⟩ := xc
        obtain ⟨h2, h3, _⟩ := flt_ok s.data.toList x c hr
        exact keeps_badL w s hG hs h5 hx hpx x c hr (by rw [size_toList] at h2; exact h2) h3
  · have hpx : Lib.hasPrefix s.data.toList [60, 63, 120, 109, 108] = false := by
      rw [← hraw, decide_eq_false (by omega), Bool.false_and]
    cases hr : resO s.data.toList with
    | inl ms => exact keeps_okS w s hG hs (by omega) hpx ms hr
    | inr xc =>
      obtain ⟨x, c⟩ := xc
      obtain ⟨h2, h3, _⟩ := flt_ok s.data.toList x c hr
      exact keeps_badS w s hG hs (by omega) hpx x c hr (by rw [size_toList] at h2; exact h2) h3

/-- a world for the witness: what the initialisers lay, and Go's own table beside it -/
def firstCells : Array Value := match Go.Pinned.utf8First with
  | .agg ds => (ds.map fun d => match d with
    | .lit (.int k z) => Value.int k z
    | _ => .nilIface).toArray
  | _ => #[]
noncomputable def markupWorld (os : Os) : World :=
  { World.doorLaid Tryd.prog 400 os with heap := (World.doorLaid Tryd.prog 400 os).heap.modify 2 fun
      | .cells _ t frozen => .cells firstCells t frozen
      | o => o }
set_option maxRecDepth 100000 in
theorem keeps_met (os : Os) : laidMetH Tryd.prog Rows.markupKeepsRow.laid ((markupWorld os).forCall (fun _ _ => 0) ⟨#[], #[.string ByteArray.empty], []⟩).memory :=
  laidMetH_of_parts3 (fuel := 8) (laidMet_of_run' 8 (by kernel_rfl) (by kernel_rfl)) (by kernel_rfl) (by kernel_rfl)
set_option maxRecDepth 100000 in
theorem keeps_reads (os : Os) {H : Type} (enc : TypeId × Value → H) : ∃ places, DataW.whole enc Tryd.prog ((markupWorld os).forCall (fun _ _ => 0) ⟨#[], #[.string ByteArray.empty], []⟩).memory Tryd.f4.params.toList Rows.markupKeepsSpec.vars false #[Value.string ByteArray.empty].toList 8 = some ([.lit (.string [])], [], places) :=
  ⟨[], by kernel_rfl⟩
set_option maxRecDepth 100000 in
theorem keeps_lifted (os : Os) (started : os.Started) (H : Type) (enc : TypeId × Value → H) (F : Stop.Interp) :
    ReturnsInHanded {} Tryd.checked os 4 .any ((OpenSpec.ofChange Rows.markupKeepsSpec).preRow enc Tryd.prog Tryd.f4 Rows.markupKeepsRow.domain false Rows.markupKeepsRow.laid) (((OpenSpec.ofChange Rows.markupKeepsSpec).at F).post enc Tryd.prog Tryd.f4 false true false false) := by
  obtain ⟨places, hx⟩ := keeps_reads os enc
  refine returnsInHanded_of_row (C := Tryd.checked) (s := OpenSpec.ofChange Rows.markupKeepsSpec) own started (by kernel_rfl) Tryd.func4
    (witness_row_atRef (enc := enc) (C := Tryd.checked) false (markupWorld os) #[.string ByteArray.empty] rfl (by kernel_rfl) (by kernel_rfl) (by kernel_rfl)
      (OpenSpec.preRow_of_cond 8 hx (by kernel_rfl) (fun k hk => by cases hk) (by kernel_rfl) (keeps_met os))) ?_
  intro W base args ds gs before hval0 hW _ _ hsz0 hL hS _
  have hval : ∀ (j : Nat) t v, Tryd.f4.params[j]? = some t → args[j]? = some v → Value.okWide Tryd.prog W .any base t v := hval0
  have hsz : (DataW.weightsEach Tryd.prog (Tryd.f4.params.toList ++ Rows.markupKeepsSpec.plain.varTypes Tryd.prog) (ds ++ gs)).all (· ≤ reachBytes) = true := hsz0
  have hW' := hW
  obtain ⟨p, q, hA0, hV, rfl, hfz, hnd⟩ := hW
  have hA : DataW.TrodAll enc Tryd.prog W 0 (fun _ => true) true Tryd.f4.params.toList args.toList ds p := hA0
  rw [Tryd.params4] at hA hval hsz
  obtain ⟨v0, vs0, d0, ds0, p0, q0, hargs, rfl, rfl, h0, r0⟩ := trodAll_cons hA
  obtain ⟨rfl, rfl, rfl⟩ := trodAll_nil r0
  obtain rfl : args = #[v0] := by cases args; simp_all
  obtain ⟨rfl, rfl⟩ := trodVars_none hV
  obtain ⟨a0, rfl, rfl, rfl, w0⟩ := open_string Tryd.underlying9 (hval 0 9 v0 rfl rfl) h0
  have hs0 : a0.size ≤ 140737488351232 := by
    have := sized_string hsz (j := 0) (t := 9) rfl rfl
    have e : a0.data.toList.length = a0.size := by rw [Array.length_toList]; rfl
    simp only [reachBytes] at this
    omega
  have hG : Glob W := glob_of hL hS
  clear hA0 hval0 hL hS
  refine (keeps_any W a0 hG (by omega)).mono fun e W' ⟨he, bel⟩ => ?_
  subst he
  exact ⟨_, rfl, _, _, _, [], _, [], hW', trodAll_mk1 (shut_bool Tryd.underlying4 _), (trodAll_cons_mk (shut_string Tryd.underlying9 w0) trodAll_mk0), rfl, bel.frame _, fun h => by cases h⟩

theorem keeps_said : Rows.MarkupKeepsSaid :=
  OpenClaim.holds_of_cond 4 Tryd.f4 rfl rfl rfl rfl rfl rfl rfl ⟨rfl, rfl, rfl, rfl, rfl⟩ rfl rfl rfl rfl rfl (by kernel_rfl) Tryd.func4 (by kernel_rfl)
    (of_decide_eq_true (by kernel_rfl)) (by unfold Func.isWrapper; first | (rw [if_pos (by decide +kernel)]; kernel_rfl) | (rw [if_neg (by decide +kernel)]; exact ⟨rfl, rfl⟩))
    (fun os started H enc _ F => by rw [OpenClaim.pre_eq_preRow]; exact keeps_lifted os started H enc F)
/-- No parameter wants a stand-in: what the card asks. -/
theorem keeps_plain (f : FuncId) (fn : Func) (hf : Tryd.pinned.checked.prog.funcNamed "pavane/pavanelaw08.MarkupKeeps" = some f) (hfn : Tryd.pinned.checked.prog.funcs[f]? = some fn) :
    true = Tryd.pinned.checked.prog.looks [] ∧ ∀ (j : Nat) t, fn.params[j]? = some t → Tryd.pinned.checked.prog.wantsStandIn t = false := by
  obtain rfl : f = 4 := Option.some.inj ((show Tryd.prog.funcNamed "pavane/pavanelaw08.MarkupKeeps" = some 4 by kernel_rfl).symm.trans hf) |>.symm
  obtain rfl : fn = Tryd.f4 := (Option.some.inj (Tryd.func4.symm.trans hfn)).symm
  refine ⟨by kernel_rfl, fun j t ht => ?_⟩
  rw [Tryd.params4] at ht
  obtain rfl : t = 9 := by simpa using Array.mem_of_getElem? ht
  exact (show Tryd.prog.wantsStandIn 9 = false by kernel_rfl)
/-- ████ THE CARD ████ -/
theorem MarkupKeeps_holds : Rows.MarkupKeepsCardSaid :=
  Claim7.holds_tied_plain_at .later [] _ _ _ _ keeps_said (fun _ h => by cases h) (by kernel_rfl) (fun _ h => by cases h) markupKeeps_row_tie rfl ⟨rfl, rfl⟩ (by kernel_rfl) rfl keeps_plain (by kernel_rfl)
#print axioms MarkupKeeps_holds
end Go.Proofs.YtbokcihlbpeagaaDoor
