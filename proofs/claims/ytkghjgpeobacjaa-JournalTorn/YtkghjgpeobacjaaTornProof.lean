/-
  What is proved: JournalTorn answers true, and each argument reads behind the call as before it, for every input (the first form of the statement). No condition.
-/
import Derived.Test.YtkghjgpeobacjaaTornW
import Derived.Test.YtkghjgpeobacjaaOpen
import Derived.Deep.SlicePairs
import Derived.Laws.IdiomArrays
namespace Go.Proofs.Ytkghjgpeobacjaa
open Go.ChangeShapes Go.WideShapes Go.ChangeAt Go.RowKit
open Go.ChangeMaps (open_string shut_string)

theorem Try.oneByte : Try.prog.bytesOf 5 = 1 := by kernel_rfl

theorem Try.bytes37 : Try.prog.bytesOf 37 = 24 := by kernel_rfl
/-- a list of parts that comes in -/
theorem open_parts {H : Type} {enc : TypeId × Value → H} {W : World} {B : Option Addr} {N C : Nat} {d : DataW H} {p : List MemPlace} (h : DataW.Trod enc Try.prog W 0 (fun _ => true) true 29 (.slice B N C) d p) :
    ∃ ps : List Part, Rows0 W B N ps ∧ Len d N C := by
  obtain ⟨fuel, hf⟩ := h
  rcases Deep.open_slice Try.underlying29 hf with ⟨hcs, hx⟩ | ⟨x, n', c', m, n, D, Pl, hcs, _, hl, hm, hz, hx, hcell⟩
  · simp [Value.cells] at hcs
    obtain ⟨rfl, rfl, rfl⟩ := hcs
    exact ⟨[], ⟨rfl, by simp, fun h => absurd h (by omega)⟩, .inl ⟨by injection hx, rfl, rfl⟩⟩
  · simp [Value.cells] at hcs
    obtain ⟨rfl, rfl, rfl⟩ := hcs
    simp only [if_true] at hz
    subst hz
    have ce : Try.prog.cellsOf 37 = 1 := by kernel_rfl
    have each : ∀ i, i < N → ∃ q : Part, W.cell? (x.add i) = some q.val ∧ Hold W q.1 q.2.1 q.2.2.1 q.2.2.2 := by
      intro i hi
      obtain ⟨cs', h1, h2⟩ := hcell i (by omega)
      rw [ce, Nat.mul_one] at h1
      obtain ⟨_, hlen, hc⟩ := World.cells?_some h1
      match cs', hlen with
      | [v], _ =>
        have hv := hc 0 (by omega)
        have hv' : W.cell? (x.add i) = some v := by simpa [Addr.add] using hv
        have hform : ∃ A n c, v = .slice A n c := by
          rcases open_ints Try.underlying37 Try.underlying5 (by kernel_rfl) h2 with ⟨hcs, _⟩ | ⟨y, n', c', zs, hcs, _⟩
          · simp at hcs
            exact ⟨_, _, _, hcs⟩
          · simp at hcs
            exact ⟨_, _, _, hcs⟩
        obtain ⟨A, n2, c2, rfl⟩ := hform
        obtain ⟨l, hh, _⟩ := open_hold (A := A) (n := n2) (c := c2) ⟨_, h2⟩
        exact ⟨(A, n2, c2, l), hv', hh⟩
    obtain ⟨q, hq⟩ := Deep.choose_lt each
    have hd : d = .slice ((List.range N).map D) ((List.range (m - N)).map fun j => D (N + j)) := by injection hx
    refine ⟨(List.range N).map q, ⟨by simp, ?_, fun hN => ?_⟩, .inr ⟨_, _, hd, by simp, by simp; omega⟩⟩
    · intro o ho
      obtain ⟨i, hi, rfl⟩ := List.mem_map.1 ho
      exact (hq i (List.mem_range.1 hi)).2
    · obtain ⟨b, off, spot⟩ := x
      have hs : spot = none := by
        have := World.cell?_spot (hq 0 hN).1
        simpa [Addr.add] using this
      subst hs
      refine ⟨b, off, rfl, fun j hj => ?_⟩
      have hj' : j < N := by simpa using hj
      have h0 := (hq j hj').1
      simp only [Addr.add_lit] at h0
      simp only [List.getElem_map, List.getElem_range]
      exact h0

def I64 (x : Int) : Prop := -9223372036854775808 ≤ x ∧ x ≤ 9223372036854775807
theorem open_one64 {P : Program} {e : TypeId} (he : P.underlying e = some (.int .i64)) {H : Type} {enc : TypeId × Value → H} {W : World} {n : Nat} {c : Value} {y : DataW H × List MemPlace} (hy : DataW.trod enc P W 0 (fun _ => true) true n e [c] = some y) : ∃ b : Int, c = .int .i64 b ∧ I64 b := by
  obtain ⟨a, ea, _, wa⟩ := DataW.trod_int he hy
  simp at ea
  exact ⟨a, ea, bounds_i64 wa⟩
theorem arr_cells {P : Program} {W : World} {base n : Nat} {t e : TypeId} {v : Value} (hu : P.underlying t = some (.array n e)) (hv : Value.okWide P W .any base t v) : ∃ cs : Array Value, v = .agg cs ∧ cs.size = P.cellsOf t := by
  simp only [Value.okWide, hu] at hv
  exact ⟨hv.choose, hv.choose_spec.1, hv.choose_spec.2.1⟩
theorem three_of {l : List Value} (h : l.toArray.size = 3) : ∃ c0 c1 c2, l = [c0, c1, c2] := by
  match l, h with
  | [c0, c1, c2], _ => exact ⟨c0, c1, c2, rfl⟩
/-- three numbers by value that come in -/
theorem open_three {P : Program} {t e : TypeId} (hu : P.underlying t = some (.array 3 e)) (he : P.underlying e = some (.int .i64)) (hc : P.cellsOf t = 3) (hce : P.cellsOf e = 1) {H : Type} {enc : TypeId × Value → H} {W : World} {base : Nat} {v : Value} {d : DataW H} {p : List MemPlace} (hv : Value.okWide P W .any base t v) (h : DataW.Trod enc P W 0 (fun _ => true) true t v d p) :
    ∃ y0 y1 y2 : Int, v = .agg #[.int .i64 y0, .int .i64 y1, .int .i64 y2] ∧ I64 y0 ∧ I64 y1 ∧ I64 y2 := by
  obtain ⟨cs, rfl, h2⟩ := arr_cells hu hv
  rw [hc] at h2
  obtain ⟨ls⟩ := cs
  obtain ⟨c0, c1, c2, rfl⟩ := three_of h2
  obtain ⟨fuel, hf⟩ := h
  obtain ⟨x0, x1, x2, n, _, g0, g1, g2⟩ := trod_array3 hu hce (c0 := c0) (c1 := c1) (c2 := c2) hf
  obtain ⟨b0, rfl, k0⟩ := open_one64 he g0
  obtain ⟨b1, rfl, k1⟩ := open_one64 he g1
  obtain ⟨b2, rfl, k2⟩ := open_one64 he g2
  exact ⟨b0, b1, b2, rfl, k0, k1, k2⟩
theorem Try.cells22 : Try.prog.cellsOf 22 = 3 := by kernel_rfl
theorem Try.cells3 : Try.prog.cellsOf 3 = 1 := by kernel_rfl

set_option maxRecDepth 100000 in
theorem journalTorn_lifted (os : Os) (started : os.Started) (H : Type) (enc : TypeId × Value → H) :
    ReturnsInHanded {} Try.checked os 4 .any (Rows.journalTornSpec.pre6 enc Try.prog Try.f4 Rows.journalTornRow.domain false) (Rows.journalTornSpec.post enc Try.prog Try.f4 false true false false) := by
  refine returnsInHanded_of_change_sized (C := Try.checked) own started (by kernel_rfl) Try.func4
    (ChangeSpec.witness6 (enc := enc) (C := Try.checked) false ⟨#[], #[.slice none 0 0, .slice none 0 0, .agg #[.int .i64 0, .int .i64 0, .int .i64 0]], []⟩ 8 (by kernel_rfl) (by kernel_rfl) (by kernel_rfl) (by kernel_rfl)) ?_
  intro W base args ds gs before hval0 hW hcnd hsz0 _
  have hval : ∀ (j : Nat) t v, Try.f4.params[j]? = some t → args[j]? = some v → Value.okWide Try.prog W .any base t v := hval0
  have hsz : (DataW.weightsEach Try.prog (Try.f4.params.toList ++ Rows.journalTornSpec.plain.varTypes Try.prog) (ds ++ gs)).all (· ≤ reachBytes) = true := hsz0
  have hW' := hW
  obtain ⟨p, q, hA0, hV, rfl, hfz, hnd⟩ := hW
  have hA : DataW.TrodAll enc Try.prog W 0 (fun _ => true) true Try.f4.params.toList args.toList ds p := hA0
  rw [Try.params4] at hA hval hsz
  obtain ⟨v0, vs0, d0, ds0, p0, q0, hargs, rfl, rfl, h0, r0⟩ := trodAll_cons hA
  obtain ⟨v1, vs1, d1, ds1, p1, q1, rfl, rfl, rfl, h1, r1⟩ := trodAll_cons r0
  obtain ⟨v2, vs2, d2, ds2, p2, q2, rfl, rfl, rfl, h2, r2⟩ := trodAll_cons r1
  obtain ⟨rfl, rfl, rfl⟩ := trodAll_nil r2
  obtain rfl : args = #[v0, v1, v2] := by cases args; simp_all
  obtain ⟨rfl, rfl⟩ := trodVars_none hV
  obtain ⟨a0, n0, c0, rfl⟩ := okWide_slice Try.underlying29 (hval 0 29 v0 rfl rfl)
  have lt0 : ∀ x ∈ p0, x.block < W.heap.size := by obtain ⟨m, hm⟩ := h0; exact DataW.trod_lt m _ _ _ hm
  obtain ⟨ps, hps, hlen0⟩ := open_parts h0
  have hn0 : n0 ≤ 140737488351232 := by
    rcases hlen0 with ⟨_, h, _⟩ | ⟨e, s, rfl, rfl, _⟩
    · omega
    · have := sized_slice hsz (j := 0) (t := 29) (e := 37) rfl rfl Try.underlying29
      rw [Try.bytes37] at this
      simp only [reachBytes] at this
      omega
  obtain ⟨a1, n1, c1, rfl⟩ := okWide_slice Try.underlying37 (hval 1 37 v1 rfl rfl)
  have lt1 : ∀ x ∈ p1, x.block < W.heap.size := by obtain ⟨m, hm⟩ := h1; exact DataW.trod_lt m _ _ _ hm
  obtain ⟨l1, hold1, hlen1⟩ := open_hold h1
  have hn1 : n1 ≤ 140737488351232 := by
    rcases hlen1 with ⟨_, h, _⟩ | ⟨e, s, rfl, rfl, _⟩
    · omega
    · have := sized_slice hsz (j := 1) (t := 37) (e := 5) rfl rfl Try.underlying37
      rw [Try.oneByte] at this
      simp only [reachBytes] at this
      omega
  obtain ⟨y20, y21, y22, rfl, yb2⟩ := open_three Try.underlying22 Try.underlying3 Try.cells22 Try.cells3 (hval 2 22 v2 rfl rfl) h2
  have lt2 : ∀ x ∈ p2, x.block < W.heap.size := by obtain ⟨m, hm⟩ := h2; exact DataW.trod_lt m _ _ _ hm
  clear hA0 hval0
  refine (journalTorn_walk a0 n0 c0 ps a1 n1 c1 l1 y20 y21 y22 W hps hold1 (by omega) (by omega) yb2.1.1 yb2.1.2).mono fun e W' ⟨he, bel⟩ => ?_
  subst he
  exact ⟨_, rfl, _, _, _, [], _, [], hW', trodAll_mk1 (shut_bool Try.underlying4 _), (trodAll_cons_mk (Below.trod laidOut (by kernel_rfl) (of_decide_eq_true (by kernel_rfl)) h0 bel lt0) (trodAll_cons_mk (Below.trod laidOut (by kernel_rfl) (of_decide_eq_true (by kernel_rfl)) h1 bel lt1) (trodAll_cons_mk (Below.trod laidOut (by kernel_rfl) (of_decide_eq_true (by kernel_rfl)) h2 bel lt2) trodAll_mk0))), rfl, bel.frame _, fun h => by cases h⟩

theorem JournalTorn_holds : Rows.JournalTornSaid :=
  OpenClaim.holds_of_wide 4 Try.f4 rfl rfl rfl rfl rfl rfl rfl ⟨rfl, rfl, rfl, rfl, rfl⟩ rfl rfl rfl rfl rfl (by kernel_rfl) Try.func4 (by kernel_rfl)
    (of_decide_eq_true (by kernel_rfl)) (by unfold Func.isWrapper; first | (rw [if_pos (by decide +kernel)]; kernel_rfl) | (rw [if_neg (by decide +kernel)]; exact ⟨rfl, rfl⟩))
    (fun os started H enc _ => journalTorn_lifted os started H enc)
#print axioms JournalTorn_holds
end Go.Proofs.Ytkghjgpeobacjaa
