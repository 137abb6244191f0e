/-
  What is proved: OctetBack answers true, and each argument reads behind the call as before it, for every input of bulk at most 1048576 (the second form of the statement).
-/
import Derived.Test.YtoidbpkclaebpaaBack
import Derived.Test.YtoidbpkclaebpaaOpen
import Derived.Deep.SlicePairs
namespace Go.Proofs.Ytoidbpkclaebpaa
open Go.ChangeShapes Go.WideShapes Go.ChangeAt Go.RowKit
open Go.ChangeMaps (open_string shut_string)

theorem four {α : Type} (l : List α) (h : l.length = 4) : ∃ a b c d, l = [a, b, c, d] := by
  match l, h with
  | [a, b, c, d], _ => exact ⟨a, b, c, d, rfl⟩

/-- one field, from its four cells -/
theorem open_fld {H : Type} {enc : TypeId × Value → H} {W : World} {n : Nat} {a : Addr} {cs : List Value} {x : DataW H × List MemPlace} (hc : W.cells? 0 a 4 = some cs) (h : DataW.trod enc Try.prog W 0 (fun _ => true) true n 44 cs = some x) :
    ∃ f : Fld, W.cell? a = some (.int .i64 f.1) ∧ W.cell? (a.add 1) = some (.int .i64 f.2.1) ∧ W.cell? (a.add 2) = some (.string f.2.2.1) ∧ W.cell? (a.add 3) = some (.bool f.2.2.2) ∧
      -9223372036854775808 ≤ f.2.1 ∧ f.2.1 ≤ 9223372036854775807 ∧ f.2.2.1.size + 5 ≤ Rows.uptoBulk x.1 := by
  obtain ⟨_, hlen, hcell⟩ := World.cells?_some hc
  obtain ⟨xs, k, _, hx, _, hxl, hf⟩ := DataW.trod_struct Try.underlying44 h
  obtain ⟨v0, v1, v2, v3, rfl⟩ := four cs hlen
  obtain ⟨y0, y1, y2, y3, rfl⟩ := four xs (by simpa using hxl)
  have c3 : Try.prog.cellsOf 3 = 1 := by kernel_rfl
  have c2 : Try.prog.cellsOf 2 = 1 := by kernel_rfl
  have c9 : Try.prog.cellsOf 9 = 1 := by kernel_rfl
  have c4 : Try.prog.cellsOf 4 = 1 := by kernel_rfl
  have g0 := hf 0 _ rfl
  have g1 := hf 1 _ rfl
  have g2 := hf 2 _ rfl
  have g3 := hf 3 _ rfl
  obtain ⟨a0, e0, z0, _⟩ := DataW.trod_int Try.underlying3 (x := y0) (by simpa [c3] using g0)
  obtain ⟨a1, e1, z1, w1⟩ := DataW.trod_int Try.underlying2 (x := y1) (by simpa [c2] using g1)
  obtain ⟨a2, e2, z2, _⟩ := DataW.trod_string Try.underlying9 (x := y2) (by simpa [c9] using g2)
  obtain ⟨a3, e3, z3⟩ := DataW.trod_bool Try.underlying4 (x := y3) (by simpa [c4] using g3)
  simp at e0 e1 e2 e3
  subst e0 e1 e2 e3 z0 z1 z2 z3
  have q0 := hcell 0 (by omega)
  have q1 := hcell 1 (by omega)
  have q2 := hcell 2 (by omega)
  have q3 := hcell 3 (by omega)
  have hb := bounds_i64 w1
  refine ⟨(a0, a1, a2, a3), by simpa [Addr.add] using q0, by simpa using q1, by simpa using q2, by simpa using q3, hb.1, hb.2, ?_⟩
  rw [hx]
  simp only [List.map_cons, List.map_nil, Rows.uptoBulk, Rows.uptoBulkAll, str_len]
  omega

theorem bulk_sum {H : Type} (q : Nat → Fld) (D : Nat → DataW H) : ∀ n, (∀ i, i < n → (q i).2.2.1.size + 5 ≤ Rows.uptoBulk (D i)) → sizes ((List.range n).map q) + 5 * n ≤ Rows.uptoBulkAll ((List.range n).map D) := by
  intro n
  induction n with
  | zero => intro _; simp [sizes]
  | succ n ih =>
    intro h
    have h1 := ih (fun i hi => h i (by omega))
    have h2 := h n (by omega)
    have app : ∀ (l r : List (DataW H)), Rows.uptoBulkAll (l ++ r) = Rows.uptoBulkAll l + Rows.uptoBulkAll r := by
      intro l r
      induction l with
      | nil => simp [Rows.uptoBulkAll]
      | cons x l ih => simp only [List.cons_append, Rows.uptoBulkAll, ih]; omega
    rw [List.range_succ, List.map_append, List.map_append, app]
    simp only [sizes, List.map_append, List.sum_append, List.map_cons, List.map_nil, List.sum_cons, List.sum_nil, Rows.uptoBulkAll] at h1 ⊢
    omega

/-- a list of fields that comes in -/
theorem open_flds {H : Type} {enc : TypeId × Value → H} {W : World} {B : Option Addr} {N C : Nat} {d : DataW H} {p : List MemPlace} (h : DataW.Trod enc Try.prog W 0 (fun _ => true) true 42 (.slice B N C) d p) :
    ∃ fs : List Fld, fs.length = N ∧ sizes fs + N + 1 ≤ Rows.uptoBulk d ∧ (∀ f ∈ fs, -9223372036854775808 ≤ f.2.1 ∧ f.2.1 ≤ 9223372036854775807) ∧
      (0 < N → ∃ b off, B = some ⟨b, off, none⟩ ∧ ∀ j (hj : j < fs.length), W.cell? ⟨b, off + j * 4, none⟩ = some (.int .i64 fs[j].1) ∧ W.cell? ⟨b, off + (j * 4 + 1), none⟩ = some (.int .i64 fs[j].2.1) ∧
        W.cell? ⟨b, off + (j * 4 + 2), none⟩ = some (.string fs[j].2.2.1) ∧ W.cell? ⟨b, off + (j * 4 + 3), none⟩ = some (.bool fs[j].2.2.2)) := by
  obtain ⟨fuel, hf⟩ := h
  rcases Deep.open_slice Try.underlying42 hf with ⟨hcs, hx⟩ | ⟨x, n', c', m, n, D, Pl, hcs, _, hl, hm, hz, hx, hcell⟩
  · simp [Value.cells] at hcs
    obtain ⟨rfl, rfl, rfl⟩ := hcs
    have hd : d = .nil := by injection hx
    subst hd
    exact ⟨[], rfl, by simp [sizes, Rows.uptoBulk], by simp, fun h => absurd h (by omega)⟩
  · simp [Value.cells] at hcs
    obtain ⟨rfl, rfl, rfl⟩ := hcs
    simp only [if_true] at hz
    subst hz
    have ce : Try.prog.cellsOf 44 = 4 := by kernel_rfl
    have each : ∀ i, i < N → ∃ q : Fld, W.cell? (x.add (i * 4)) = some (.int .i64 q.1) ∧ W.cell? ((x.add (i * 4)).add 1) = some (.int .i64 q.2.1) ∧ W.cell? ((x.add (i * 4)).add 2) = some (.string q.2.2.1) ∧ W.cell? ((x.add (i * 4)).add 3) = some (.bool q.2.2.2) ∧
        -9223372036854775808 ≤ q.2.1 ∧ q.2.1 ≤ 9223372036854775807 ∧ q.2.2.1.size + 5 ≤ Rows.uptoBulk (D i) := by
      intro i hi
      obtain ⟨cs', h1, h2⟩ := hcell i (by omega)
      rw [ce] at h1
      exact open_fld h1 h2
    obtain ⟨q, hq⟩ := Deep.choose_lt each
    have hd : d = .slice ((List.range N).map D) ((List.range (m - N)).map fun j => D (N + j)) := by injection hx
    have hsum := bulk_sum q D N (fun i hi => (hq i hi).2.2.2.2.2.2)
    refine ⟨(List.range N).map q, by simp, ?_, ?_, fun hN => ?_⟩
    · rw [hd]
      simp only [Rows.uptoBulk]
      omega
    · intro o ho
      obtain ⟨i, hi, rfl⟩ := List.mem_map.1 ho
      exact ⟨(hq i (List.mem_range.1 hi)).2.2.2.2.1, (hq i (List.mem_range.1 hi)).2.2.2.2.2.1⟩
    · obtain ⟨b, off, spot⟩ := x
      have hs : spot = none := by
        have := World.cell?_spot (hq 0 hN).1
        simpa [Addr.add] using this
      subst hs
      refine ⟨b, off, rfl, fun j hj => ?_⟩
      have hj' : j < N := by simpa using hj
      obtain ⟨h0, h1, h2, h3, _⟩ := hq j hj'
      simp only [Addr.add_lit] at h0 h1 h2 h3
      simp only [List.getElem_map, List.getElem_range]
      exact ⟨h0, by rw [← Nat.add_assoc]; exact h1, by rw [← Nat.add_assoc]; exact h2, by rw [← Nat.add_assoc]; exact h3⟩

set_option maxRecDepth 100000 in
theorem octetBack_lifted (os : Os) (started : os.Started) (H : Type) (enc : TypeId × Value → H) (F : Stop.Interp) :
    ReturnsInHanded {} Try.checked os 5 .any ((Rows.OpenSpec.upto Rows.octetBackSpec).pre6 enc Try.prog Try.f5 Rows.octetBackUptoRow.domain false) (((Rows.OpenSpec.upto Rows.octetBackSpec).at F).post enc Try.prog Try.f5 false true false false) := by
  refine returnsInHanded_of_cond (C := Try.checked) (s := Rows.OpenSpec.upto Rows.octetBackSpec) (k := Rows.uptoSmall) rfl own started (by kernel_rfl) Try.func5
    (OpenSpec.witness (enc := enc) (C := Try.checked) (s := Rows.OpenSpec.upto Rows.octetBackSpec) (k := Rows.uptoSmall) rfl false ⟨#[], #[.slice none 0 0, .slice none 0 0], []⟩ 8 (by kernel_rfl) (by kernel_rfl) (by kernel_rfl)
      (x := ([.nil, .nil], [], [])) (by kernel_rfl) rfl (by kernel_rfl)) ?_
  intro W base args ds gs before hval0 hW _ hk _
  have hval : ∀ (j : Nat) t v, Try.f5.params[j]? = some t → args[j]? = some v → Value.okWide Try.prog W .any base t v := hval0
  have hW' := hW
  obtain ⟨p, q, hA0, hV, rfl, hfz, hnd⟩ := hW
  have hA : DataW.TrodAll enc Try.prog W 0 (fun _ => true) true Try.f5.params.toList args.toList ds p := hA0
  rw [Try.params5] at hA hval
  obtain ⟨v0, vs0, d0, ds0, p0, q0, hargs, rfl, rfl, h0, r0⟩ := trodAll_cons hA
  obtain ⟨v1, vs1, d1, ds1, p1, q1, rfl, rfl, rfl, h1, r1⟩ := trodAll_cons r0
  obtain ⟨rfl, rfl, rfl⟩ := trodAll_nil r1
  obtain rfl : args = #[v0, v1] := by cases args; simp_all
  obtain ⟨rfl, rfl⟩ := trodVars_none hV
  obtain ⟨a0, n0, c0, rfl⟩ := okWide_slice Try.underlying42 (hval 0 42 v0 rfl rfl)
  obtain ⟨a1, n1, c1, rfl⟩ := okWide_slice Try.underlying22 (hval 1 22 v1 rfl rfl)
  have lt0 : ∀ x ∈ p0, x.block < W.heap.size := by obtain ⟨m, hm⟩ := h0; exact DataW.trod_lt m _ _ _ hm
  have lt1 : ∀ x ∈ p1, x.block < W.heap.size := by obtain ⟨m, hm⟩ := h1; exact DataW.trod_lt m _ _ _ hm
  obtain ⟨fs, hN, hbf, hbd, hop⟩ := open_flds h0
  obtain ⟨l, hold, hlen⟩ := open_hold h1
  clear hA0 hval0
  have hb := bulk_le hk
  have hb1 := bulk_len hlen
  simp only [List.append_nil, Rows.uptoBulkAll] at hb
  refine (octetBack_walk a0 n0 c0 fs a1 n1 c1 l W hold hN (by omega) hop hbd).mono fun e W' ⟨he, bel⟩ => ?_
  subst he
  exact ⟨_, rfl, _, _, _, [], _, [], hW', trodAll_mk1 (shut_bool Try.underlying4 _), (trodAll_cons_mk (Below.trod laidOut (by kernel_rfl) (of_decide_eq_true (by kernel_rfl)) h0 bel lt0) (trodAll_cons_mk (Below.trod laidOut (by kernel_rfl) (of_decide_eq_true (by kernel_rfl)) h1 bel lt1) trodAll_mk0)), rfl, bel.frame _, fun h => by cases h⟩

theorem OctetBack_upto : Rows.OctetBackUptoSaid :=
  OpenClaim.holds_of_cond 5 Try.f5 rfl rfl rfl rfl rfl rfl rfl ⟨rfl, rfl, rfl, rfl, rfl⟩ rfl rfl rfl rfl rfl (by kernel_rfl) Try.func5 (by kernel_rfl)
    (of_decide_eq_true (by kernel_rfl)) (by unfold Func.isWrapper; first | (rw [if_pos (by decide +kernel)]; kernel_rfl) | (rw [if_neg (by decide +kernel)]; exact ⟨rfl, rfl⟩))
    (fun os started H enc _ F => octetBack_lifted os started H enc F)
#print axioms OctetBack_upto
end Go.Proofs.Ytoidbpkclaebpaa
