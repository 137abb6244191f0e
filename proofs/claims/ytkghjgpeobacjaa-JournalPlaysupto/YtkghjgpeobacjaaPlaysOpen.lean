/-
  What is proved: how a script of JournalPlays that comes in reads. Conditions: what comes in is within the bound of the second form.
-/
import Derived.Test.YtkghjgpeobacjaaPl
import Derived.Test.YtkghjgpeobacjaaOpen
import Derived.Deep.SlicePairs
namespace Go.Proofs.Ytkghjgpeobacjaa
open Go.ChangeShapes Go.WideShapes Go.ChangeAt Go.RowKit

instance : Inhabited OpQ := ⟨⟨0, 0, 0, 0, 0, (none, 0, 0, [])⟩⟩
theorem six {α : Type} (l : List α) (h : l.length = 6) : ∃ a b c d e f, l = [a, b, c, d, e, f] := by
  match l, h with
  | [a, b, c, d, e, f], _ => exact ⟨a, b, c, d, e, f, rfl⟩
/-- one step, from its six cells -/
theorem open_op {H : Type} {enc : TypeId × Value → H} {W : World} {n : Nat} {a : Addr} {cs : List Value} {x : DataW H × List MemPlace} (hc : W.cells? 0 a 6 = some cs) (h : DataW.trod enc Try.prog W 0 (fun _ => true) true n 39 cs = some x) (hx : Rows.uptoBulk x.1 ≤ 1048576) :
    ∃ o : OpQ, (∀ i v, o.vals[i]? = some v → W.cell? (a.add i) = some v) ∧ o.Ok W ∧ 7 ≤ Rows.uptoBulk x.1 := by
  obtain ⟨_, hlen, hcell⟩ := World.cells?_some hc
  obtain ⟨xs, k, _, hx', _, hxl, hf⟩ := DataW.trod_struct Try.underlying39 h
  obtain ⟨v0, v1, v2, v3, v4, v5, rfl⟩ := six cs hlen
  obtain ⟨y0, y1, y2, y3, y4, y5, rfl⟩ := six xs (by simpa using hxl)
  have c3 : Try.prog.cellsOf 3 = 1 := by kernel_rfl
  have c2 : Try.prog.cellsOf 2 = 1 := by kernel_rfl
  have c37 : Try.prog.cellsOf 37 = 1 := by kernel_rfl
  have g0 := hf 0 _ rfl
  have g1 := hf 1 _ rfl
  have g2 := hf 2 _ rfl
  have g3 := hf 3 _ rfl
  have g4 := hf 4 _ rfl
  have g5 := hf 5 _ rfl
  obtain ⟨a0, e0, z0, _⟩ := DataW.trod_int Try.underlying3 (x := y0) (by simpa [c3, c2] using g0)
  obtain ⟨a1, e1, z1, w1⟩ := DataW.trod_int Try.underlying3 (x := y1) (by simpa [c3, c2] using g1)
  obtain ⟨a2, e2, z2, w2⟩ := DataW.trod_int Try.underlying3 (x := y2) (by simpa [c3, c2] using g2)
  obtain ⟨a3, e3, z3, w3⟩ := DataW.trod_int Try.underlying2 (x := y3) (by simpa [c3, c2] using g3)
  obtain ⟨a4, e4, z4, w4⟩ := DataW.trod_int Try.underlying2 (x := y4) (by simpa [c3, c2] using g4)
  have g5' : DataW.trod enc Try.prog W 0 (fun _ => true) true k 37 [v5] = some y5 := by simpa [c37, c3, c2] using g5
  have hform : ∃ A n c, v5 = .slice A n c := by
    rcases open_ints Try.underlying37 Try.underlying5 (by kernel_rfl) g5' with ⟨hcs, _⟩ | ⟨y, n', c', zs, hcs, _⟩
    · simp at hcs
      exact ⟨_, _, _, hcs⟩
    · simp at hcs
      exact ⟨_, _, _, hcs⟩
  obtain ⟨A, n2, c2', rfl⟩ := hform
  obtain ⟨dd, pp⟩ := y5
  obtain ⟨l, hh, hln⟩ := open_hold (A := A) (n := n2) (c := c2') (d := dd) (p := pp) ⟨_, g5'⟩
  have hbl := bulk_len hln
  simp at e0 e1 e2 e3 e4
  subst e0 e1 e2 e3 e4 z0 z1 z2 z3 z4
  have q0 := hcell 0 (by omega)
  have q1 := hcell 1 (by omega)
  have q2 := hcell 2 (by omega)
  have q3 := hcell 3 (by omega)
  have q4 := hcell 4 (by omega)
  have q5 := hcell 5 (by omega)
  have b1 := bounds_i64 w1
  have b2 := bounds_i64 w2
  have b3 := bounds_i64 w3
  have b4 := bounds_i64 w4
  rw [hx'] at hx ⊢
  simp only [List.map_cons, List.map_nil, Rows.uptoBulk, Rows.uptoBulkAll] at hx ⊢
  refine ⟨⟨a0, a1, a2, a3, a4, (A, n2, c2', l)⟩, ?_, ⟨hh, ?_, b1, b2, b3, b4⟩, ?_⟩
  · intro i v hv
    match i, hv with
    | 0, hv => simp [OpQ.vals] at hv; subst hv; simpa using q0
    | 1, hv => simp [OpQ.vals] at hv; subst hv; simpa using q1
    | 2, hv => simp [OpQ.vals] at hv; subst hv; simpa using q2
    | 3, hv => simp [OpQ.vals] at hv; subst hv; simpa using q3
    | 4, hv => simp [OpQ.vals] at hv; subst hv; simpa using q4
    | 5, hv => simp [OpQ.vals] at hv; subst hv; simpa [Part.val] using q5
    | i + 6, hv => simp [OpQ.vals] at hv
  · show n2 ≤ 1048576
    omega
  · omega
theorem bulk_app {H : Type} : ∀ (l r : List (DataW H)), Rows.uptoBulkAll (l ++ r) = Rows.uptoBulkAll l + Rows.uptoBulkAll r := by
  intro l r
  induction l with
  | nil => simp [Rows.uptoBulkAll]
  | cons x l ih => simp only [List.cons_append, Rows.uptoBulkAll, ih]; omega
theorem bulk_seven {H : Type} (D : Nat → DataW H) : ∀ (n : Nat), (∀ i, i < n → 7 ≤ Rows.uptoBulk (D i)) → 7 * n ≤ Rows.uptoBulkAll ((List.range n).map D) := by
  intro n
  induction n with
  | zero => intro _; omega
  | succ n ih =>
    intro h
    rw [List.range_succ, List.map_append, bulk_app]
    simp only [List.map_cons, List.map_nil, Rows.uptoBulkAll]
    have h1 := ih fun i hi => h i (by omega)
    have h2 := h n (by omega)
    omega
theorem bulk_each {H : Type} (D : Nat → DataW H) : ∀ (n i : Nat), i < n → Rows.uptoBulk (D i) ≤ Rows.uptoBulkAll ((List.range n).map D) := by
  intro n
  induction n with
  | zero => intro i hi; omega
  | succ n ih =>
    intro i hi
    have app : ∀ (l r : List (DataW H)), Rows.uptoBulkAll (l ++ r) = Rows.uptoBulkAll l + Rows.uptoBulkAll r := by
      intro l r
      induction l with
      | nil => simp [Rows.uptoBulkAll]
      | cons x l ih => simp only [List.cons_append, Rows.uptoBulkAll, ih]; omega
    rw [List.range_succ, List.map_append, app]
    simp only [List.map_cons, List.map_nil, Rows.uptoBulkAll]
    by_cases h : i = n
    · subst h; omega
    · have := ih i (by omega); omega
/-- a script that comes in -/
theorem open_ops {H : Type} {enc : TypeId × Value → H} {W : World} {B : Option Addr} {N C : Nat} {d : DataW H} {p : List MemPlace} (h : DataW.Trod enc Try.prog W 0 (fun _ => true) true 23 (.slice B N C) d p) (hbu : Rows.uptoBulk d ≤ 1048576) :
    ∃ os : List OpQ, OpsQ W B N os ∧ 7 * N ≤ 1048576 := by
  obtain ⟨fuel, hf⟩ := h
  rcases Deep.open_slice Try.underlying23 hf with ⟨hcs, hx⟩ | ⟨x, n', c', m, n, D, Pl, hcs, _, hl, hm, hz, hx, hcell⟩
  · simp [Value.cells] at hcs
    obtain ⟨rfl, rfl, rfl⟩ := hcs
    exact ⟨[], ⟨rfl, by simp, fun h => absurd h (by omega)⟩, by omega⟩
  · simp [Value.cells] at hcs
    obtain ⟨rfl, rfl, rfl⟩ := hcs
    simp only [if_true] at hz
    subst hz
    have hd : d = .slice ((List.range N).map D) ((List.range (m - N)).map fun j => D (N + j)) := by injection hx
    rw [hd] at hbu
    simp only [Rows.uptoBulk] at hbu
    have ce : Try.prog.cellsOf 39 = 6 := by kernel_rfl
    have each : ∀ i, i < N → ∃ q : OpQ, (∀ t v, q.vals[t]? = some v → W.cell? ((x.add (i * 6)).add t) = some v) ∧ q.Ok W ∧ 7 ≤ Rows.uptoBulk (D i) := by
      intro i hi
      obtain ⟨cs', h1, h2⟩ := hcell i (by omega)
      rw [ce] at h1
      have hbi := bulk_each D N i hi
      exact open_op h1 h2 (by show Rows.uptoBulk (D i) ≤ _; omega)
    obtain ⟨q, hq⟩ := Deep.choose_lt each
    have h7 := bulk_seven D N fun i hi => (hq i hi).2.2
    refine ⟨(List.range N).map q, ⟨by simp, ?_, fun hN => ?_⟩, by omega⟩
    · intro o ho
      obtain ⟨i, hi, rfl⟩ := List.mem_map.1 ho
      exact (hq i (List.mem_range.1 hi)).2.1
    · obtain ⟨b, off, spot⟩ := x
      have hs : spot = none := by
        have := World.cell?_spot ((hq 0 hN).1 0 _ rfl)
        simpa [Addr.add] using this
      subst hs
      refine ⟨b, off, rfl, fun j hj => ?_⟩
      have hj' : j < N := by simpa using hj
      have h0 := (hq j hj').1
      simp only [List.getElem_map, List.getElem_range]
      intro i v hv
      have h1 := h0 i v hv
      simp only [Addr.add_lit] at h1
      exact h1

end Go.Proofs.Ytkghjgpeobacjaa
