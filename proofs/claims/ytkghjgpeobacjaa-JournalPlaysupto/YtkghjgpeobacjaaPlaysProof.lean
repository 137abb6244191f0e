/-
  What is proved: JournalPlays answers true, and each argument reads behind the call as before it, for every input of bulk at most 1048576 (the second form of the statement).
-/
import Derived.Test.YtkghjgpeobacjaaPlays
import Derived.Test.YtkghjgpeobacjaaPlaysOpen
import Derived.Laws.IdiomArrays
namespace Go.Proofs.Ytkghjgpeobacjaa
open Go.ChangeShapes Go.WideShapes Go.ChangeAt Go.RowKit
open Go.ChangeMaps (open_string shut_string)

def I64 (x : Int) : Prop := -9223372036854775808 ≤ x ∧ x ≤ 9223372036854775807
theorem open_one64 {P : Program} {e : TypeId} (he : P.underlying e = some (.int .i64)) {H : Type} {enc : TypeId × Value → H} {W : World} {n : Nat} {c : Value} {y : DataW H × List MemPlace} (hy : DataW.trod enc P W 0 (fun _ => true) true n e [c] = some y) : ∃ b : Int, c = .int .i64 b ∧ I64 b := by
  obtain ⟨a, ea, _, wa⟩ := DataW.trod_int he hy
  simp at ea
  exact ⟨a, ea, bounds_i64 wa⟩
theorem arr_cells {P : Program} {W : World} {base n : Nat} {t e : TypeId} {v : Value} (hu : P.underlying t = some (.array n e)) (hv : Value.okWide P W .any base t v) : ∃ cs : Array Value, v = .agg cs ∧ cs.size = P.cellsOf t := by
  simp only [Value.okWide, hu] at hv
  exact ⟨hv.choose, hv.choose_spec.1, hv.choose_spec.2.1⟩
theorem three_of {l : List Value} (h : l.toArray.size = 3) : ∃ c0 c1 c2, l = [c0, c1, c2] := by
  match l, h with
  | [c0, c1, c2], _ => exact ⟨c0, c1, c2, rfl⟩
/-- three numbers by value that come in -/
theorem open_three {P : Program} {t e : TypeId} (hu : P.underlying t = some (.array 3 e)) (he : P.underlying e = some (.int .i64)) (hc : P.cellsOf t = 3) (hce : P.cellsOf e = 1) {H : Type} {enc : TypeId × Value → H} {W : World} {base : Nat} {v : Value} {d : DataW H} {p : List MemPlace} (hv : Value.okWide P W .any base t v) (h : DataW.Trod enc P W 0 (fun _ => true) true t v d p) :
    ∃ y0 y1 y2 : Int, v = .agg #[.int .i64 y0, .int .i64 y1, .int .i64 y2] ∧ I64 y0 ∧ I64 y1 ∧ I64 y2 := by
  obtain ⟨cs, rfl, h2⟩ := arr_cells hu hv
  rw [hc] at h2
  obtain ⟨ls⟩ := cs
  obtain ⟨c0, c1, c2, rfl⟩ := three_of h2
  obtain ⟨fuel, hf⟩ := h
  obtain ⟨x0, x1, x2, n, _, g0, g1, g2⟩ := trod_array3 hu hce (c0 := c0) (c1 := c1) (c2 := c2) hf
  obtain ⟨b0, rfl, k0⟩ := open_one64 he g0
  obtain ⟨b1, rfl, k1⟩ := open_one64 he g1
  obtain ⟨b2, rfl, k2⟩ := open_one64 he g2
  exact ⟨b0, b1, b2, rfl, k0, k1, k2⟩
theorem Try.cells22 : Try.prog.cellsOf 22 = 3 := by kernel_rfl
theorem Try.cells3 : Try.prog.cellsOf 3 = 1 := by kernel_rfl

set_option maxRecDepth 100000 in
theorem journalPlays_lifted (os : Os) (started : os.Started) (H : Type) (enc : TypeId × Value → H) (F : Stop.Interp) :
    ReturnsInHanded {} Try.checked os 3 .any ((Rows.OpenSpec.upto Rows.journalPlaysSpec).pre6 enc Try.prog Try.f3 Rows.journalPlaysUptoRow.domain false) (((Rows.OpenSpec.upto Rows.journalPlaysSpec).at F).post enc Try.prog Try.f3 false true false false) := by
  refine returnsInHanded_of_cond (C := Try.checked) (s := Rows.OpenSpec.upto Rows.journalPlaysSpec) (k := Rows.uptoSmall) rfl own started (by kernel_rfl) Try.func3
    (OpenSpec.witness (enc := enc) (C := Try.checked) (s := Rows.OpenSpec.upto Rows.journalPlaysSpec) (k := Rows.uptoSmall) rfl false ⟨#[], #[.agg #[.int .i64 0, .int .i64 0, .int .i64 0], .slice none 0 0], []⟩ 8 (by kernel_rfl) (by kernel_rfl) (by kernel_rfl)
      (x := ([.agg [.lit (.int .i64 0), .lit (.int .i64 0), .lit (.int .i64 0)], .nil], [], [])) (by kernel_rfl) rfl (by kernel_rfl)) ?_
  intro W base args ds gs before hval0 hW _ hk _
  have hval : ∀ (j : Nat) t v, Try.f3.params[j]? = some t → args[j]? = some v → Value.okWide Try.prog W .any base t v := hval0
  have hW' := hW
  obtain ⟨p, q, hA0, hV, rfl, hfz, hnd⟩ := hW
  have hA : DataW.TrodAll enc Try.prog W 0 (fun _ => true) true Try.f3.params.toList args.toList ds p := hA0
  rw [Try.params3] at hA hval
  obtain ⟨v0, vs0, d0, ds0, p0, q0, hargs, rfl, rfl, h0, r0⟩ := trodAll_cons hA
  obtain ⟨v1, vs1, d1, ds1, p1, q1, rfl, rfl, rfl, h1, r1⟩ := trodAll_cons r0
  obtain ⟨rfl, rfl, rfl⟩ := trodAll_nil r1
  obtain rfl : args = #[v0, v1] := by cases args; simp_all
  obtain ⟨rfl, rfl⟩ := trodVars_none hV
  have hb := bulk_le hk
  simp only [List.append_nil, Rows.uptoBulkAll] at hb
  obtain ⟨y00, y01, y02, rfl, yb0⟩ := open_three Try.underlying22 Try.underlying3 Try.cells22 Try.cells3 (hval 0 22 v0 rfl rfl) h0
  have lt0 : ∀ x ∈ p0, x.block < W.heap.size := by obtain ⟨m, hm⟩ := h0; exact DataW.trod_lt m _ _ _ hm
  obtain ⟨a1, n1, c1, rfl⟩ := okWide_slice Try.underlying23 (hval 1 23 v1 rfl rfl)
  have lt1 : ∀ x ∈ p1, x.block < W.heap.size := by obtain ⟨m, hm⟩ := h1; exact DataW.trod_lt m _ _ _ hm
  obtain ⟨ops1, hops1, hbo1⟩ := open_ops h1 (by omega)
  clear hA0 hval0
  refine (journalPlays_walk y00 y01 y02 a1 n1 c1 ops1 W hops1 hbo1 yb0.2.1).mono fun e W' ⟨he, bel⟩ => ?_
  subst he
  exact ⟨_, rfl, _, _, _, [], _, [], hW', trodAll_mk1 (shut_bool Try.underlying4 _), (trodAll_cons_mk (Below.trod laidOut (by kernel_rfl) (of_decide_eq_true (by kernel_rfl)) h0 bel lt0) (trodAll_cons_mk (Below.trod laidOut (by kernel_rfl) (of_decide_eq_true (by kernel_rfl)) h1 bel lt1) trodAll_mk0)), rfl, bel.frame _, fun h => by cases h⟩

theorem JournalPlays_upto : Rows.JournalPlaysUptoSaid :=
  OpenClaim.holds_of_cond 3 Try.f3 rfl rfl rfl rfl rfl rfl rfl ⟨rfl, rfl, rfl, rfl, rfl⟩ rfl rfl rfl rfl rfl (by kernel_rfl) Try.func3 (by kernel_rfl)
    (of_decide_eq_true (by kernel_rfl)) (by unfold Func.isWrapper; first | (rw [if_pos (by decide +kernel)]; kernel_rfl) | (rw [if_neg (by decide +kernel)]; exact ⟨rfl, rfl⟩))
    (fun os started H enc _ F => journalPlays_lifted os started H enc F)
#print axioms JournalPlays_upto
end Go.Proofs.Ytkghjgpeobacjaa
