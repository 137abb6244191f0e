/-
  What is proved: JournalSpoilt answers true, and each argument reads behind the call as before it, for every input (the first form of the statement). No condition.
-/
import Derived.Test.YtkghjgpeobacjaaSpoilt
import Derived.Test.YtkghjgpeobacjaaOpen
import Derived.Deep.SlicePairs
import Derived.Laws.IdiomArrays
namespace Go.Proofs.Ytkghjgpeobacjaa
open Go.ChangeShapes Go.WideShapes Go.ChangeAt Go.RowKit
open Go.ChangeMaps (open_string shut_string)

theorem Try.oneByte : Try.prog.bytesOf 5 = 1 := by kernel_rfl

theorem Try.bytes37 : Try.prog.bytesOf 37 = 24 := by kernel_rfl
/-- a list of parts that comes in -/
theorem open_parts {H : Type} {enc : TypeId × Value → H} {W : World} {B : Option Addr} {N C : Nat} {d : DataW H} {p : List MemPlace} (h : DataW.Trod enc Try.prog W 0 (fun _ => true) true 29 (.slice B N C) d p) :
    ∃ ps : List Part, Rows0 W B N ps ∧ Len d N C := by
  obtain ⟨fuel, hf⟩ := h
  rcases Deep.open_slice Try.underlying29 hf with ⟨hcs, hx⟩ | ⟨x, n', c', m, n, D, Pl, hcs, _, hl, hm, hz, hx, hcell⟩
  · simp [Value.cells] at hcs
    obtain ⟨rfl, rfl, rfl⟩ := hcs
    exact ⟨[], ⟨rfl, by simp, fun h => absurd h (by omega)⟩, .inl ⟨by injection hx, rfl, rfl⟩⟩
  · simp [Value.cells] at hcs
    obtain ⟨rfl, rfl, rfl⟩ := hcs
    simp only [if_true] at hz
    subst hz
    have ce : Try.prog.cellsOf 37 = 1 := by kernel_rfl
    have each : ∀ i, i < N → ∃ q : Part, W.cell? (x.add i) = some q.val ∧ Hold W q.1 q.2.1 q.2.2.1 q.2.2.2 := by
      intro i hi
      obtain ⟨cs', h1, h2⟩ := hcell i (by omega)
      rw [ce, Nat.mul_one] at h1
      obtain ⟨_, hlen, hc⟩ := World.cells?_some h1
      match cs', hlen with
      | [v], _ =>
        have hv := hc 0 (by omega)
        have hv' : W.cell? (x.add i) = some v := by simpa [Addr.add] using hv
        have hform : ∃ A n c, v = .slice A n c := by
          rcases open_ints Try.underlying37 Try.underlying5 (by kernel_rfl) h2 with ⟨hcs, _⟩ | ⟨y, n', c', zs, hcs, _⟩
          · simp at hcs
            exact ⟨_, _, _, hcs⟩
          · simp at hcs
            exact ⟨_, _, _, hcs⟩
        obtain ⟨A, n2, c2, rfl⟩ := hform
        obtain ⟨l, hh, _⟩ := open_hold (A := A) (n := n2) (c := c2) ⟨_, h2⟩
        exact ⟨(A, n2, c2, l), hv', hh⟩
    obtain ⟨q, hq⟩ := Deep.choose_lt each
    have hd : d = .slice ((List.range N).map D) ((List.range (m - N)).map fun j => D (N + j)) := by injection hx
    refine ⟨(List.range N).map q, ⟨by simp, ?_, fun hN => ?_⟩, .inr ⟨_, _, hd, by simp, by simp; omega⟩⟩
    · intro o ho
      obtain ⟨i, hi, rfl⟩ := List.mem_map.1 ho
      exact (hq i (List.mem_range.1 hi)).2
    · obtain ⟨b, off, spot⟩ := x
      have hs : spot = none := by
        have := World.cell?_spot (hq 0 hN).1
        simpa [Addr.add] using this
      subst hs
      refine ⟨b, off, rfl, fun j hj => ?_⟩
      have hj' : j < N := by simpa using hj
      have h0 := (hq j hj').1
      simp only [Addr.add_lit] at h0
      simp only [List.getElem_map, List.getElem_range]
      exact h0

theorem open_oneU8 {P : Program} {e : TypeId} (he : P.underlying e = some (.int .u8)) {H : Type} {enc : TypeId × Value → H} {W : World} {n : Nat} {c : Value} {y : DataW H × List MemPlace} (hy : DataW.trod enc P W 0 (fun _ => true) true n e [c] = some y) : ∃ b : UInt8, c = .int .u8 (b.toNat : Int) := by
  obtain ⟨a, ea, _, wa⟩ := DataW.trod_int he hy
  have hb := bounds_u8 wa
  simp at ea
  refine ⟨UInt8.ofNat a.toNat, ?_⟩
  rw [ea]
  congr 1
  simp only [UInt8.toNat_ofNat']
  omega
theorem arr_cells {P : Program} {W : World} {base n : Nat} {t e : TypeId} {v : Value} (hu : P.underlying t = some (.array n e)) (hv : Value.okWide P W .any base t v) : ∃ cs : Array Value, v = .agg cs ∧ cs.size = P.cellsOf t := by
  simp only [Value.okWide, hu] at hv
  exact ⟨hv.choose, hv.choose_spec.1, hv.choose_spec.2.1⟩
theorem four_of {l : List Value} (h : l.toArray.size = 4) : ∃ c0 c1 c2 c3, l = [c0, c1, c2, c3] := by
  match l, h with
  | [c0, c1, c2, c3], _ => exact ⟨c0, c1, c2, c3, rfl⟩
/-- four bytes by value that come in -/
theorem open_four {P : Program} {t e : TypeId} (hu : P.underlying t = some (.array 4 e)) (he : P.underlying e = some (.int .u8)) (hc : P.cellsOf t = 4) (hce : P.cellsOf e = 1) {H : Type} {enc : TypeId × Value → H} {W : World} {base : Nat} {v : Value} {d : DataW H} {p : List MemPlace} (hv : Value.okWide P W .any base t v) (h : DataW.Trod enc P W 0 (fun _ => true) true t v d p) :
    ∃ y0 y1 y2 y3 : UInt8, v = .agg #[.int .u8 (y0.toNat : Int), .int .u8 (y1.toNat : Int), .int .u8 (y2.toNat : Int), .int .u8 (y3.toNat : Int)] := by
  obtain ⟨cs, rfl, h2⟩ := arr_cells hu hv
  rw [hc] at h2
  obtain ⟨ls⟩ := cs
  obtain ⟨c0, c1, c2, c3, rfl⟩ := four_of h2
  obtain ⟨fuel, hf⟩ := h
  obtain ⟨x0, x1, x2, x3, n, _, g0, g1, g2, g3⟩ := trod_array4 hu hce (c0 := c0) (c1 := c1) (c2 := c2) (c3 := c3) hf
  obtain ⟨b0, rfl⟩ := open_oneU8 he g0
  obtain ⟨b1, rfl⟩ := open_oneU8 he g1
  obtain ⟨b2, rfl⟩ := open_oneU8 he g2
  obtain ⟨b3, rfl⟩ := open_oneU8 he g3
  exact ⟨b0, b1, b2, b3, rfl⟩
theorem Try.cells61 : Try.prog.cellsOf 61 = 4 := by kernel_rfl
theorem Try.cells5 : Try.prog.cellsOf 5 = 1 := by kernel_rfl

set_option maxRecDepth 100000 in
theorem journalSpoilt_lifted (os : Os) (started : os.Started) (H : Type) (enc : TypeId × Value → H) :
    ReturnsInHanded {} Try.checked os 5 .any (Rows.journalSpoiltSpec.pre6 enc Try.prog Try.f5 Rows.journalSpoiltRow.domain false) (Rows.journalSpoiltSpec.post enc Try.prog Try.f5 false true false false) := by
  refine returnsInHanded_of_change_sized (C := Try.checked) own started (by kernel_rfl) Try.func5
    (ChangeSpec.witness6 (enc := enc) (C := Try.checked) false ⟨#[], #[.slice none 0 0, .int .u8 0, .int .i64 0, .agg #[.int .u8 0, .int .u8 0, .int .u8 0, .int .u8 0]], []⟩ 8 (by kernel_rfl) (by kernel_rfl) (by kernel_rfl) (by kernel_rfl)) ?_
  intro W base args ds gs before hval0 hW hcnd hsz0 _
  have hval : ∀ (j : Nat) t v, Try.f5.params[j]? = some t → args[j]? = some v → Value.okWide Try.prog W .any base t v := hval0
  have hsz : (DataW.weightsEach Try.prog (Try.f5.params.toList ++ Rows.journalSpoiltSpec.plain.varTypes Try.prog) (ds ++ gs)).all (· ≤ reachBytes) = true := hsz0
  have hW' := hW
  obtain ⟨p, q, hA0, hV, rfl, hfz, hnd⟩ := hW
  have hA : DataW.TrodAll enc Try.prog W 0 (fun _ => true) true Try.f5.params.toList args.toList ds p := hA0
  rw [Try.params5] at hA hval hsz
  obtain ⟨v0, vs0, d0, ds0, p0, q0, hargs, rfl, rfl, h0, r0⟩ := trodAll_cons hA
  obtain ⟨v1, vs1, d1, ds1, p1, q1, rfl, rfl, rfl, h1, r1⟩ := trodAll_cons r0
  obtain ⟨v2, vs2, d2, ds2, p2, q2, rfl, rfl, rfl, h2, r2⟩ := trodAll_cons r1
  obtain ⟨v3, vs3, d3, ds3, p3, q3, rfl, rfl, rfl, h3, r3⟩ := trodAll_cons r2
  obtain ⟨rfl, rfl, rfl⟩ := trodAll_nil r3
  obtain rfl : args = #[v0, v1, v2, v3] := by cases args; simp_all
  obtain ⟨rfl, rfl⟩ := trodVars_none hV
  obtain ⟨a0, n0, c0, rfl⟩ := okWide_slice Try.underlying29 (hval 0 29 v0 rfl rfl)
  have lt0 : ∀ x ∈ p0, x.block < W.heap.size := by obtain ⟨m, hm⟩ := h0; exact DataW.trod_lt m _ _ _ hm
  obtain ⟨ps, hps, hlen0⟩ := open_parts h0
  have hn0 : n0 ≤ 140737488351232 := by
    rcases hlen0 with ⟨_, h, _⟩ | ⟨e, s, rfl, rfl, _⟩
    · omega
    · have := sized_slice hsz (j := 0) (t := 29) (e := 37) rfl rfl Try.underlying29
      rw [Try.bytes37] at this
      simp only [reachBytes] at this
      omega
  obtain ⟨a1, rfl, rfl, rfl, w1⟩ := open_int Try.underlying5 (hval 1 5 v1 rfl rfl) h1
  have b1 := bounds_u8 w1
  obtain ⟨m1, rfl⟩ := Int.eq_ofNat_of_zero_le b1.1
  obtain ⟨a2, rfl, rfl, rfl, w2⟩ := open_int Try.underlying3 (hval 2 3 v2 rfl rfl) h2
  have b2 := bounds_i64 w2
  obtain ⟨y0, y1, y2, y3, rfl⟩ := open_four Try.underlying61 Try.underlying5 Try.cells61 Try.cells5 (hval 3 61 v3 rfl rfl) h3
  have lt3 : ∀ x ∈ p3, x.block < W.heap.size := by obtain ⟨m, hm⟩ := h3; exact DataW.trod_lt m _ _ _ hm
  clear hA0 hval0
  refine (journalSpoilt_walk a0 n0 c0 ps m1 a2 y0 y1 y2 y3 W hps (by omega) (by omega) b2.1 b2.2).mono fun e W' ⟨he, bel⟩ => ?_
  subst he
  exact ⟨_, rfl, _, _, _, [], _, [], hW', trodAll_mk1 (shut_bool Try.underlying4 _), (trodAll_cons_mk (Below.trod laidOut (by kernel_rfl) (of_decide_eq_true (by kernel_rfl)) h0 bel lt0) (trodAll_cons_mk (shut_int Try.underlying5 w1) (trodAll_cons_mk (shut_int Try.underlying3 w2) (trodAll_cons_mk (Below.trod laidOut (by kernel_rfl) (of_decide_eq_true (by kernel_rfl)) h3 bel lt3) trodAll_mk0)))), rfl, bel.frame _, fun h => by cases h⟩

theorem JournalSpoilt_holds : Rows.JournalSpoiltSaid :=
  OpenClaim.holds_of_wide 5 Try.f5 rfl rfl rfl rfl rfl rfl rfl ⟨rfl, rfl, rfl, rfl, rfl⟩ rfl rfl rfl rfl rfl (by kernel_rfl) Try.func5 (by kernel_rfl)
    (of_decide_eq_true (by kernel_rfl)) (by unfold Func.isWrapper; first | (rw [if_pos (by decide +kernel)]; kernel_rfl) | (rw [if_neg (by decide +kernel)]; exact ⟨rfl, rfl⟩))
    (fun os started H enc _ => journalSpoilt_lifted os started H enc)
#print axioms JournalSpoilt_holds
end Go.Proofs.Ytkghjgpeobacjaa
