/-
  What is proved: CrcSums answers true, and each argument reads behind the call as before it, for every input (the first form of the statement). No condition.
-/
import Derived.Test.YtpaagokojjcdgaaParted
import Derived.Test.YtpaagokojjcdgaaOpen
import Derived.Deep.SlicePairs
namespace Go.Proofs.Ytpaagokojjcdgaa
open Go.ChangeShapes Go.WideShapes Go.ChangeAt Go.RowKit
open Go.ChangeMaps (open_string shut_string)

theorem Try.bytes27 : Try.prog.bytesOf 27 = 24 := by kernel_rfl
/-- a list of parts that comes in -/
theorem open_parts {H : Type} {enc : TypeId × Value → H} {W : World} {B : Option Addr} {N C : Nat} {d : DataW H} {p : List MemPlace} (h : DataW.Trod enc Try.prog W 0 (fun _ => true) true 26 (.slice B N C) d p) :
    ∃ ps : List Part, Rows0 W B N ps ∧ Len d N C := by
  obtain ⟨fuel, hf⟩ := h
  rcases Deep.open_slice Try.underlying26 hf with ⟨hcs, hx⟩ | ⟨x, n', c', m, n, D, Pl, hcs, _, hl, hm, hz, hx, hcell⟩
  · simp [Value.cells] at hcs
    obtain ⟨rfl, rfl, rfl⟩ := hcs
    exact ⟨[], ⟨rfl, by simp, fun h => absurd h (by omega)⟩, .inl ⟨by injection hx, rfl, rfl⟩⟩
  · simp [Value.cells] at hcs
    obtain ⟨rfl, rfl, rfl⟩ := hcs
    simp only [if_true] at hz
    subst hz
    have ce : Try.prog.cellsOf 27 = 1 := by kernel_rfl
    have each : ∀ i, i < N → ∃ q : Part, W.cell? (x.add i) = some q.val ∧ Hold W q.1 q.2.1 q.2.2.1 q.2.2.2 := by
      intro i hi
      obtain ⟨cs', h1, h2⟩ := hcell i (by omega)
      rw [ce, Nat.mul_one] at h1
      obtain ⟨_, hlen, hc⟩ := World.cells?_some h1
      match cs', hlen with
      | [v], _ =>
        have hv := hc 0 (by omega)
        have hv' : W.cell? (x.add i) = some v := by simpa [Addr.add] using hv
        have hform : ∃ A n c, v = .slice A n c := by
          rcases open_ints Try.underlying27 Try.underlying5 (by kernel_rfl) h2 with ⟨hcs, _⟩ | ⟨y, n', c', zs, hcs, _⟩
          · simp at hcs
            exact ⟨_, _, _, hcs⟩
          · simp at hcs
            exact ⟨_, _, _, hcs⟩
        obtain ⟨A, n2, c2, rfl⟩ := hform
        obtain ⟨l, hh, _⟩ := open_hold (A := A) (n := n2) (c := c2) ⟨_, h2⟩
        exact ⟨(A, n2, c2, l), hv', hh⟩
    obtain ⟨q, hq⟩ := Deep.choose_lt each
    have hd : d = .slice ((List.range N).map D) ((List.range (m - N)).map fun j => D (N + j)) := by injection hx
    refine ⟨(List.range N).map q, ⟨by simp, ?_, fun hN => ?_⟩, .inr ⟨_, _, hd, by simp, by simp; omega⟩⟩
    · intro o ho
      obtain ⟨i, hi, rfl⟩ := List.mem_map.1 ho
      exact (hq i (List.mem_range.1 hi)).2
    · obtain ⟨b, off, spot⟩ := x
      have hs : spot = none := by
        have := World.cell?_spot (hq 0 hN).1
        simpa [Addr.add] using this
      subst hs
      refine ⟨b, off, rfl, fun j hj => ?_⟩
      have hj' : j < N := by simpa using hj
      have h0 := (hq j hj').1
      simp only [Addr.add_lit] at h0
      simp only [List.getElem_map, List.getElem_range]
      exact h0

set_option maxRecDepth 100000 in
theorem crcSums_lifted (os : Os) (started : os.Started) (H : Type) (enc : TypeId × Value → H) :
    ReturnsInHanded {} Try.checked os 4 .any (Rows.crcSumsSpec.pre6 enc Try.prog Try.f4 Rows.crcSumsRow.domain false) (Rows.crcSumsSpec.post enc Try.prog Try.f4 false true false false) := by
  refine returnsInHanded_of_change_sized (C := Try.checked) own started (by kernel_rfl) Try.func4
    (ChangeSpec.witness6 (enc := enc) (C := Try.checked) false ⟨#[], #[.slice none 0 0, .int .i64 0], []⟩ 8 (by kernel_rfl) (by kernel_rfl) (by kernel_rfl) (by kernel_rfl)) ?_
  intro W base args ds gs before hval0 hW hcnd hsz0 _
  have hval : ∀ (j : Nat) t v, Try.f4.params[j]? = some t → args[j]? = some v → Value.okWide Try.prog W .any base t v := hval0
  have hsz : (DataW.weightsEach Try.prog (Try.f4.params.toList ++ Rows.crcSumsSpec.plain.varTypes Try.prog) (ds ++ gs)).all (· ≤ reachBytes) = true := hsz0
  have hW' := hW
  obtain ⟨p, q, hA0, hV, rfl, hfz, hnd⟩ := hW
  have hA : DataW.TrodAll enc Try.prog W 0 (fun _ => true) true Try.f4.params.toList args.toList ds p := hA0
  rw [Try.params4] at hA hval hsz
  obtain ⟨v0, vs0, d0, ds0, p0, q0, hargs, rfl, rfl, h0, r0⟩ := trodAll_cons hA
  obtain ⟨v1, vs1, d1, ds1, p1, q1, rfl, rfl, rfl, h1, r1⟩ := trodAll_cons r0
  obtain ⟨rfl, rfl, rfl⟩ := trodAll_nil r1
  obtain rfl : args = #[v0, v1] := by cases args; simp_all
  obtain ⟨rfl, rfl⟩ := trodVars_none hV
  obtain ⟨a0, n0, c0, rfl⟩ := okWide_slice Try.underlying26 (hval 0 26 v0 rfl rfl)
  have lt0 : ∀ x ∈ p0, x.block < W.heap.size := by obtain ⟨m, hm⟩ := h0; exact DataW.trod_lt m _ _ _ hm
  obtain ⟨ps, hps, hlen0⟩ := open_parts h0
  have hn0 : n0 ≤ 140737488351232 := by
    rcases hlen0 with ⟨_, h, _⟩ | ⟨e, s, rfl, rfl, _⟩
    · omega
    · have := sized_slice hsz (j := 0) (t := 26) (e := 27) rfl rfl Try.underlying26
      rw [Try.bytes27] at this
      simp only [reachBytes] at this
      omega
  obtain ⟨a1, rfl, rfl, rfl, w1⟩ := open_int Try.underlying3 (hval 1 3 v1 rfl rfl) h1
  have b1 := bounds_i64 w1
  clear hA0 hval0
  refine (crcSums_walk a0 n0 c0 ps a1 W hps (by omega) b1.1 b1.2).mono fun e W' ⟨he, bel⟩ => ?_
  subst he
  exact ⟨_, rfl, _, _, _, [], _, [], hW', trodAll_mk1 (shut_bool Try.underlying4 _), (trodAll_cons_mk (Below.trod laidOut (by kernel_rfl) (of_decide_eq_true (by kernel_rfl)) h0 bel lt0) (trodAll_cons_mk (shut_int Try.underlying3 w1) trodAll_mk0)), rfl, bel.frame _, fun h => by cases h⟩

theorem CrcSums_holds : Rows.CrcSumsSaid :=
  OpenClaim.holds_of_wide 4 Try.f4 rfl rfl rfl rfl rfl rfl rfl ⟨rfl, rfl, rfl, rfl, rfl⟩ rfl rfl rfl rfl rfl (by kernel_rfl) Try.func4 (by kernel_rfl)
    (of_decide_eq_true (by kernel_rfl)) (by unfold Func.isWrapper; first | (rw [if_pos (by decide +kernel)]; kernel_rfl) | (rw [if_neg (by decide +kernel)]; exact ⟨rfl, rfl⟩))
    (fun os started H enc _ => crcSums_lifted os started H enc)
#print axioms CrcSums_holds
end Go.Proofs.Ytpaagokojjcdgaa
