/-
  What is proved: how a script that comes in reads. Conditions: what comes in is within the bound of the second form.
-/
import Derived.Test.YtmajmohnnfjiaaaLasts
import Derived.Test.YtmajmohnnfjiaaaOpen
import Derived.Deep.SlicePairs
namespace Go.Proofs.Ytmajmohnnfjiaaa
open Go.ChangeShapes Go.WideShapes Go.ChangeAt Go.RowKit

instance : Inhabited OpR := ⟨⟨0, 0, 0, (none, 0, 0, [])⟩⟩
theorem four {α : Type} (l : List α) (h : l.length = 4) : ∃ a b c d, l = [a, b, c, d] := by
  match l, h with
  | [a, b, c, d], _ => exact ⟨a, b, c, d, rfl⟩
/-- one step, from its four cells -/
theorem open_op {H : Type} {enc : TypeId × Value → H} {W : World} {n : Nat} {a : Addr} {cs : List Value} {x : DataW H × List MemPlace} (hc : W.cells? 0 a 4 = some cs) (h : DataW.trod enc Try.prog W 0 (fun _ => true) true n 30 cs = some x) (hx : Rows.uptoBulk x.1 ≤ 1048576) :
    ∃ o : OpR, W.cell? a = some (.int .i64 o.kind) ∧ W.cell? (a.add 1) = some (.int .i64 o.i) ∧ W.cell? (a.add 2) = some (.int .i64 o.n) ∧ W.cell? (a.add 3) = some o.d.val ∧ o.Ok W := by
  obtain ⟨_, hlen, hcell⟩ := World.cells?_some hc
  obtain ⟨xs, k, _, hx', _, hxl, hf⟩ := DataW.trod_struct Try.underlying30 h
  obtain ⟨v0, v1, v2, v3, rfl⟩ := four cs hlen
  obtain ⟨y0, y1, y2, y3, rfl⟩ := four xs (by simpa using hxl)
  have c3 : Try.prog.cellsOf 3 = 1 := by kernel_rfl
  have c28 : Try.prog.cellsOf 28 = 1 := by kernel_rfl
  have g0 := hf 0 _ rfl
  have g1 := hf 1 _ rfl
  have g2 := hf 2 _ rfl
  have g3 := hf 3 _ rfl
  obtain ⟨a0, e0, z0, _⟩ := DataW.trod_int Try.underlying3 (x := y0) (by simpa [c3] using g0)
  obtain ⟨a1, e1, z1, w1⟩ := DataW.trod_int Try.underlying3 (x := y1) (by simpa [c3] using g1)
  obtain ⟨a2, e2, z2, w2⟩ := DataW.trod_int Try.underlying3 (x := y2) (by simpa [c3] using g2)
  have g3' : DataW.trod enc Try.prog W 0 (fun _ => true) true k 28 [v3] = some y3 := by simpa [c28] using g3
  have hform : ∃ A n c, v3 = .slice A n c := by
    rcases open_ints Try.underlying28 Try.underlying5 (by kernel_rfl) g3' with ⟨hcs, _⟩ | ⟨y, n', c', zs, hcs, _⟩
    · simp at hcs
      exact ⟨_, _, _, hcs⟩
    · simp at hcs
      exact ⟨_, _, _, hcs⟩
  obtain ⟨A, n2, c2, rfl⟩ := hform
  obtain ⟨dd, pp⟩ := y3
  obtain ⟨l, hh, hln⟩ := open_hold (A := A) (n := n2) (c := c2) (d := dd) (p := pp) ⟨_, g3'⟩
  have hbl := bulk_len hln
  simp at e0 e1 e2
  subst e0 e1 e2 z0 z1 z2
  have q0 := hcell 0 (by omega)
  have q1 := hcell 1 (by omega)
  have q2 := hcell 2 (by omega)
  have q3 := hcell 3 (by omega)
  have b1 := bounds_i64 w1
  have b2 := bounds_i64 w2
  rw [hx'] at hx
  simp only [List.map_cons, List.map_nil, Rows.uptoBulk, Rows.uptoBulkAll] at hx
  refine ⟨⟨a0, a1, a2, (A, n2, c2, l)⟩, by simpa [Addr.add] using q0, by simpa using q1, by simpa using q2, by simpa [Part.val] using q3, ⟨hh, ?_, b1.1, b1.2, b2.1, b2.2⟩⟩
  show n2 ≤ 1048576
  omega
theorem bulk_each {H : Type} (D : Nat → DataW H) : ∀ (n i : Nat), i < n → Rows.uptoBulk (D i) ≤ Rows.uptoBulkAll ((List.range n).map D) := by
  intro n
  induction n with
  | zero => intro i hi; omega
  | succ n ih =>
    intro i hi
    have app : ∀ (l r : List (DataW H)), Rows.uptoBulkAll (l ++ r) = Rows.uptoBulkAll l + Rows.uptoBulkAll r := by
      intro l r
      induction l with
      | nil => simp [Rows.uptoBulkAll]
      | cons x l ih => simp only [List.cons_append, Rows.uptoBulkAll, ih]; omega
    rw [List.range_succ, List.map_append, app]
    simp only [List.map_cons, List.map_nil, Rows.uptoBulkAll]
    by_cases h : i = n
    · subst h; omega
    · have := ih i (by omega); omega
/-- a script that comes in -/
theorem open_ops {H : Type} {enc : TypeId × Value → H} {W : World} {B : Option Addr} {N C : Nat} {d : DataW H} {p : List MemPlace} (h : DataW.Trod enc Try.prog W 0 (fun _ => true) true 22 (.slice B N C) d p) (hbu : Rows.uptoBulk d ≤ 1048576) :
    ∃ os : List OpR, Ops W B N os ∧ N + 1 ≤ Rows.uptoBulk d := by
  obtain ⟨fuel, hf⟩ := h
  rcases Deep.open_slice Try.underlying22 hf with ⟨hcs, hx⟩ | ⟨x, n', c', m, n, D, Pl, hcs, _, hl, hm, hz, hx, hcell⟩
  · simp [Value.cells] at hcs
    obtain ⟨rfl, rfl, rfl⟩ := hcs
    have hd : d = .nil := by injection hx
    subst hd
    exact ⟨[], ⟨rfl, by simp, fun h => absurd h (by omega)⟩, by simp [Rows.uptoBulk]⟩
  · simp [Value.cells] at hcs
    obtain ⟨rfl, rfl, rfl⟩ := hcs
    simp only [if_true] at hz
    subst hz
    have hd : d = .slice ((List.range N).map D) ((List.range (m - N)).map fun j => D (N + j)) := by injection hx
    have hbu' := hbu
    rw [hd] at hbu'
    simp only [Rows.uptoBulk] at hbu'
    have ce : Try.prog.cellsOf 30 = 4 := by kernel_rfl
    have each : ∀ i, i < N → ∃ q : OpR, W.cell? (x.add (i * 4)) = some (.int .i64 q.kind) ∧ W.cell? ((x.add (i * 4)).add 1) = some (.int .i64 q.i) ∧ W.cell? ((x.add (i * 4)).add 2) = some (.int .i64 q.n) ∧ W.cell? ((x.add (i * 4)).add 3) = some q.d.val ∧ q.Ok W := by
      intro i hi
      obtain ⟨cs', h1, h2⟩ := hcell i (by omega)
      rw [ce] at h1
      have hbi := bulk_each D N i hi
      exact open_op h1 h2 (by show Rows.uptoBulk (D i) ≤ _; omega)
    obtain ⟨q, hq⟩ := Deep.choose_lt each
    have hbl := bulk_list ((List.range N).map D)
    refine ⟨(List.range N).map q, ⟨by simp, ?_, fun hN => ?_⟩, ?_⟩
    · intro o ho
      obtain ⟨i, hi, rfl⟩ := List.mem_map.1 ho
      exact (hq i (List.mem_range.1 hi)).2.2.2.2
    · obtain ⟨b, off, spot⟩ := x
      have hs : spot = none := by
        have := World.cell?_spot (hq 0 hN).1
        simpa [Addr.add] using this
      subst hs
      refine ⟨b, off, rfl, fun j hj => ?_⟩
      have hj' : j < N := by simpa using hj
      obtain ⟨h0, h1, h2, h3, _⟩ := hq j hj'
      simp only [Addr.add_lit] at h0 h1 h2 h3
      simp only [List.getElem_map, List.getElem_range]
      intro i v hv
      match i, hv with
      | 0, hv => simp [OpR.vals] at hv; subst hv; exact h0
      | 1, hv => simp [OpR.vals] at hv; subst hv; exact h1
      | 2, hv => simp [OpR.vals] at hv; subst hv; exact h2
      | 3, hv => simp [OpR.vals] at hv; subst hv; exact h3
      | i + 4, hv => simp [OpR.vals] at hv
    · rw [hd]
      simp only [Rows.uptoBulk]
      simp at hbl
      omega

end Go.Proofs.Ytmajmohnnfjiaaa
