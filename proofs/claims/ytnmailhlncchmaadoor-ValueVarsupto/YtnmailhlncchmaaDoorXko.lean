/-
  What is proved: how a list of variables that comes in reads, and what the bound on what comes in says of it. Conditions: those in each statement.
-/
import Derived.Test.YtnmailhlncchmaaDoorXw
import Derived.Test.YtnmailhlncchmaaDoorXy
import Derived.Test.YtnmailhlncchmaaDoorOpen
import Derived.Deep.SlicePairs
namespace Go.Proofs.YtnmailhlncchmaaDoor
open Go.ChangeShapes Go.WideShapes Go.ChangeAt Go.RowKit Go.Lib

theorem okWide_spotV {P : Program} {w : World} {r : Reach} {base : Nat} {t e : TypeId} {A : Option Addr} {n c : Nat} (ht : P.underlying t = some (.slice e)) (h : Value.okWide P w r base t (.slice A n c)) : A = none ∨ ∃ b o, A = some ⟨b, o, none⟩ := by
  cases A with
  | none => exact .inl rfl
  | some a =>
    simp only [Value.okWide, ht, Cell.okWide, Cell.ok] at h
    obtain ⟨b, o, s⟩ := a
    obtain rfl : s = none := h.2.2.2.1
    exact .inr ⟨b, o, rfl⟩
theorem four_ofV {α : Type} (l : List α) (h : l.length = 4) : ∃ a b c d, l = [a, b, c, d] := by
  match l, h with
  | [a, b, c, d], _ => exact ⟨a, b, c, d, rfl⟩
theorem three_ofV {α : Type} (l : List α) (h : l.length = 3) : ∃ a b c, l = [a, b, c] := by
  match l, h with
  | [a, b, c], _ => exact ⟨a, b, c, rfl⟩
theorem two_ofV {α : Type} (l : List α) (h : l.length = 2) : ∃ a b, l = [a, b] := by
  match l, h with
  | [a, b], _ => exact ⟨a, b, rfl⟩
theorem bulk_str0 {H : Type} (s : ByteArray) : Rows.uptoBulk (DataW.lit (H := H) (.string s.data.toList)) = s.size + 1 := bulk_string s
/-- a variable's own bounds -/
def VrOk (y : Vr) : Prop := (Lit.int .i64 y.v.k).wf = true ∧ (Lit.int .i64 y.v.n).wf = true ∧ y.nm.size ≤ maxLen ∧ y.v.s.size ≤ maxLen
/-- one variable, from its four cells -/
theorem open_vr {H : Type} {enc : TypeId × Value → H} {W : World} {n : Nat} {cs : List Value} {x : DataW H × List MemPlace} (hlen : cs.length = 4) (h : DataW.trod enc Tryd.prog W 0 (fun _ => true) true n 42 cs = some x) :
    ∃ y : Vr, cs = encR y ∧ VrOk y ∧ y.nm.size + y.v.s.size ≤ Rows.uptoBulk x.1 := by
  obtain ⟨xs, k, _, hx', _, hxl, hf⟩ := DataW.trod_struct Tryd.underlying42 h
  obtain ⟨v0, v1, v2, v3, rfl⟩ := four_ofV cs hlen
  obtain ⟨y0, y1, rfl⟩ := two_ofV xs (by simpa using hxl)
  have c9 : Tryd.prog.cellsOf 9 = 1 := by kernel_rfl
  have c3 : Tryd.prog.cellsOf 3 = 1 := by kernel_rfl
  have c8 : Tryd.prog.cellsOf 2 = 1 := by kernel_rfl
  have c23 : Tryd.prog.cellsOf 23 = 3 := by kernel_rfl
  have g0 := hf 0 _ rfl
  have g1 := hf 1 _ rfl
  obtain ⟨a0, e0, z0, w0⟩ := DataW.trod_string Tryd.underlying9 (x := y0) (by simpa [c9] using g0)
  have g1' : DataW.trod enc Tryd.prog W 0 (fun _ => true) true k 23 [v1, v2, v3] = some y1 := by simpa [c9, c23] using g1
  obtain ⟨zs, k', _, hz', _, hzl, hg⟩ := DataW.trod_struct Tryd.underlying23 g1'
  obtain ⟨t0, t1, t2, rfl⟩ := three_ofV zs (by simpa using hzl)
  have q0 := hg 0 _ rfl
  have q1 := hg 1 _ rfl
  have q2 := hg 2 _ rfl
  obtain ⟨a1, e1, z1, w1⟩ := DataW.trod_int Tryd.underlying3 (x := t0) (by simpa [c3] using q0)
  obtain ⟨a2, e2, z2, w2⟩ := DataW.trod_int Tryd.underlying2 (x := t1) (by simpa [c3, c8] using q1)
  obtain ⟨a3, e3, z3, w3⟩ := DataW.trod_string Tryd.underlying9 (x := t2) (by simpa [c3, c8, c9] using q2)
  simp at e0 e1 e2 e3
  subst e0 e1 e2 e3 z0 z1 z2 z3
  refine ⟨⟨a0, ⟨a1, a2, a3⟩⟩, rfl, ⟨w1, w2, w0, w3⟩, ?_⟩
  rw [hx']
  have h0 := bulk_str0 (H := H) a0
  have h3 := bulk_str0 (H := H) a3
  simp only [List.map_cons, List.map_nil, Rows.uptoBulk, Rows.uptoBulkAll, hz'] at h0 h3 ⊢
  omega
theorem bulk_eachV {H : Type} (D : Nat → DataW H) : ∀ (n i : Nat), i < n → Rows.uptoBulk (D i) ≤ Rows.uptoBulkAll ((List.range n).map D) := by
  intro n
  induction n with
  | zero => intro i hi; omega
  | succ n ih =>
    intro i hi
    have app : ∀ (l r : List (DataW H)), Rows.uptoBulkAll (l ++ r) = Rows.uptoBulkAll l + Rows.uptoBulkAll r := by
      intro l r
      induction l with
      | nil => simp [Rows.uptoBulkAll]
      | cons x l ih => simp only [List.cons_append, Rows.uptoBulkAll, ih]; omega
    rw [List.range_succ, List.map_append, app]
    simp only [List.map_cons, List.map_nil, Rows.uptoBulkAll]
    by_cases h : i = n
    · subst h; omega
    · have := ih i (by omega); omega
/-- a list of variables that comes in -/
theorem open_vars {H : Type} {enc : TypeId × Value → H} {W : World} {A : Option Addr} {N C : Nat} {d : DataW H} {p : List MemPlace} (hA : A = none ∨ ∃ b o, A = some ⟨b, o, none⟩) (h : DataW.Trod enc Tryd.prog W 0 (fun _ => true) true 33 (.slice A N C) d p) :
    ∃ l : List Vr, HR W A N C l ∧ (∀ y ∈ l, VrOk y ∧ y.nm.size + y.v.s.size ≤ Rows.uptoBulk d) ∧ N + 1 ≤ Rows.uptoBulk d ∧ (A = none → C = 0) := by
  obtain ⟨fuel, hf⟩ := h
  rcases Deep.open_slice Tryd.underlying33 hf with ⟨hcs, hx⟩ | ⟨x, n', c', m, n, D, Pl, hcs, _, hl, hm, hz, hx, hcell⟩
  · simp [Value.cells] at hcs
    obtain ⟨rfl, rfl, rfl⟩ := hcs
    have hd : d = .nil := by injection hx
    subst hd
    exact ⟨[], HR.nil _, by simp, by simp [Rows.uptoBulk], fun _ => rfl⟩
  · simp [Value.cells] at hcs
    obtain ⟨rfl, rfl, rfl⟩ := hcs
    simp only [if_true] at hz
    subst hz
    obtain ⟨b, off, rfl⟩ : ∃ b o, x = ⟨b, o, none⟩ := by
      rcases hA with e | ⟨b, o, e⟩
      · cases e
      · exact ⟨b, o, Option.some.inj e⟩
    have hd : d = .slice ((List.range N).map D) ((List.range (m - N)).map fun j => D (N + j)) := by injection hx
    have ce : Tryd.prog.cellsOf 42 = 4 := by kernel_rfl
    have each : ∀ i, i < N → ∃ q : Vr, (∀ j u, (encR q)[j]? = some u → W.cell? ⟨b, off + i * 4 + j, none⟩ = some u) ∧ VrOk q ∧ q.nm.size + q.v.s.size ≤ Rows.uptoBulk (D i) := by
      intro i hi
      obtain ⟨cs', h1, h2⟩ := hcell i (by omega)
      rw [ce] at h1
      obtain ⟨_, hlen, hc⟩ := World.cells?_some h1
      obtain ⟨y, rfl, k2, k3⟩ := open_vr hlen h2
      refine ⟨y, fun j u hj => ?_, k2, k3⟩
      have hj4 : j < 4 := by
        rcases Nat.lt_or_ge j 4 with h' | h'
        · exact h'
        · rw [List.getElem?_eq_none (by rw [hlen]; exact h')] at hj; cases hj
      have := hc j hj4
      rw [hj] at this
      simpa only [Addr.add_lit] using this
    haveI : Inhabited Vr := ⟨⟨⟨#[]⟩, ⟨0, 0, ⟨#[]⟩⟩⟩⟩
    obtain ⟨q, hq⟩ := Deep.choose_lt each
    have hbl := bulk_list ((List.range N).map D)
    have hall : Rows.uptoBulkAll ((List.range N).map D) ≤ Rows.uptoBulk d := by
      rw [hd]
      simp only [Rows.uptoBulk]
      omega
    refine ⟨(List.range N).map q, ⟨by simp, hl, fun hN => ⟨b, off, rfl, ?_, fun j u hj => ?_⟩, .inr ⟨b, off, rfl⟩⟩, ?_, ?_, fun h => by cases h⟩
    · have := (hq 0 hN).1 0 _ rfl
      exact World.block_lt_of_cell? W _ this
    · have hj4 : j < N * 4 := by
        rcases Nat.lt_or_ge j (N * 4) with h' | h'
        · exact h'
        · rw [List.getElem?_eq_none (by rw [rwV_length]; simpa using h')] at hj; cases hj
      obtain ⟨i, t, ht, rfl⟩ : ∃ i t, t < 4 ∧ j = i * 4 + t := ⟨j / 4, j % 4, Nat.mod_lt _ (by omega), by omega⟩
      have hi : i < N := by omega
      rw [rwV_get _ i (by simpa using hi) t ht] at hj
      have hgi : ((List.range N).map q)[i]'(by simpa using hi) = q i := by simp
      rw [hgi] at hj
      rw [← Nat.add_assoc]
      exact (hq i hi).1 t u hj
    · intro y hy
      obtain ⟨i, hi, rfl⟩ := List.mem_map.1 hy
      have hi' := List.mem_range.1 hi
      have := bulk_eachV D N i hi'
      obtain ⟨_, h2, h3⟩ := hq i hi'
      exact ⟨h2, by omega⟩
    · rw [hd]
      simp only [Rows.uptoBulk]
      simp at hbl
      omega
end Go.Proofs.YtnmailhlncchmaaDoor
