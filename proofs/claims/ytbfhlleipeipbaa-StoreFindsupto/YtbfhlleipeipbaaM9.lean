/-
  What is proved: the texts Ka, Kb, Kp, Fa, Fb, Fm, Fw in one: what each proves stands ahead of it. Conditions: those in each statement.
-/
import Derived.Test.YtbfhlleipeipbaaM7
import Derived.Test.YtbfhlleipeipbaaOpen
import Derived.Deep.SlicePairs
/- What is proved: what a batch of at most 300 changes of at most 1048576 bytes each asks for; what a store keeps where a row of another's is changed. Conditions: those in each statement. -/
namespace Go.Proofs.Ytbfhlleipeipbaa
open Go.RowKit Go.Lib Go.Sort

theorem mem_allC : ∀ (b l : List Cg), Asc l → ∀ z ∈ allC l b, z ∈ l ∨ ∃ c ∈ b, z = bare c
  | [], l, _, z, hz => .inl hz
  | c :: b, l, hl, z, hz => by
    obtain ⟨h1, h2, _⟩ := doGo_spec (bare c) l c.gone hl
    have hz' : z ∈ allC (doC l c) b := hz
    rcases mem_allC b (doC l c) h1 z hz' with h | ⟨d, hd, e⟩
    · rcases h2 z h with ⟨_, e⟩ | h
      · exact .inr ⟨c, List.mem_cons_self .., e⟩
      · exact .inl h
    · exact .inr ⟨d, List.mem_cons_of_mem _ hd, e⟩
theorem allC_len : ∀ (b l : List Cg), (allC l b).length ≤ l.length + b.length
  | [], l => by simp [allC]
  | c :: b, l => by
    have h1 := allC_len b (doC l c)
    have h2 := doC_len l c
    have e : allC l (c :: b) = allC (doC l c) b := rfl
    rw [e, List.length_cons]
    omega
theorem chB_top (c : Cg) : (chB c).length ≤ 17 + (c.key.size + c.val.size) := by
  unfold chB txB
  have e1 : (ky c).length = c.key.size := size_toList _
  have e2 : (vl c).length = c.val.size := size_toList _
  split
  · simp only [List.length_append, dig_length, e1]
    simp
    omega
  · simp only [List.length_append, dig_length, e1, e2]
    simp
    omega
theorem chsB_top (M : Nat) : ∀ l : List Cg, (∀ y ∈ l, y.key.size + y.val.size ≤ M) → (chsB l).length ≤ l.length * (17 + M)
  | [], _ => by simp [chsB]
  | c :: l, h => by
    have h1 := chsB_top M l (fun y hy => h y (List.mem_cons_of_mem _ hy))
    have h2 := chB_top c
    have h3 := h c (List.mem_cons_self ..)
    rw [chsB_cons, List.length_append, List.length_cons, Nat.succ_mul]
    omega
/-- what the laws' batches are -/
structure Small (l : List Cg) : Prop where
  n : l.length ≤ 300
  s : ∀ y ∈ l, y.key.size + y.val.size ≤ 1048576
theorem Small.all {l : List Cg} (h : Small l) : Small (allC [] l) :=
  ⟨Nat.le_trans (allC_len l []) (by simpa using h.n), fun y hy => by
    rcases mem_allC l [] List.Pairwise.nil y hy with h1 | ⟨c, hc, rfl⟩
    · cases h1
    · exact h.s c hc⟩
theorem Small.len {l : List Cg} (h : Small l) : (chsB l).length ≤ 314577900 := by
  have h1 := chsB_top 1048576 l h.s
  have h2 := h.n
  have : l.length * (17 + 1048576) ≤ 300 * (17 + 1048576) := Nat.mul_le_mul_right _ h2
  omega
theorem Small.sized {l : List Cg} (h : Small l) : Sized [] l :=
  ⟨by rw [batB_length]; have := h.len; omega, fun y hy => Nat.le_trans (h.s y hy) (by omega), by have := h.n; simp only [List.length_nil]; omega, by have := h.all.len; omega, fun y hy => Nat.le_trans (h.all.s y hy) (by omega)⟩
/-- what Commit does to a store on a new disk, where there is room, and where there is none -/
theorem Commit_new_disk {w0 w : World} {sb cb g N : Nat} (hx : SMem w0 w sb cb g (newX N)) (hN : 4 ≤ N) (l : List Cg) (hs : Small l) (A : Option Addr) (n c : Nat) (hl : HC w A n c l) :
    Calls Try.prog 13 #[.pointer (some ⟨sb, 0, none⟩), .slice A n c] w fun e w' =>
      (e = .returned (.int .i64 0) ∧ ∃ x' a' en' cn', SMem w0 w' sb cb g x' ∧ Inv N 1 x' a' en' cn' ∧ x'.P = allC [] l ∧ OthersS w w' ∧ ∃ A n c, w'.cell? ⟨sb, 17, none⟩ = some (.slice A n c) ∧ w'.ownsRow w.heap.size 52 3 (.slice A n c) n (chV x'.P)) ∨
      (e = .returned (.int .i64 51) ∧ SMem w0 w' sb cb g (newX N) ∧ OthersS w w' ∧ ¬ fitsB N 0 (batB l).length ∧ ¬ fitsB N 0 (batB (allC [] l)).length) := by
  have hi := newX_inv (N := N) hN
  have ok := hi.cmOk hN (l := l) hs.sized
  have h := Commit_new w0 w sb cb g (newX N) 0 0 0 l hx ok rfl A n c hl
  by_cases hf : fitsB N 0 (batB l).length ∨ fitsB N 0 (batB (allC [] l)).length
  · obtain ⟨e0, hP, a', en', cn', hi'⟩ := hi.commit hN (by omega) l hf
    refine h.mono ?_
    rintro e w' ⟨rfl, hm, ho, hn⟩
    exact .inl ⟨by rw [e0], _, a', en', cn', hm, hi', hP, ho, hn e0⟩
  · obtain ⟨e0, hX⟩ := hi.refused l (fun h => hf (.inl h)) (fun h => hf (.inr h))
    refine h.mono ?_
    rintro e w' ⟨rfl, hm, ho, _⟩
    exact .inr ⟨by rw [e0], by rw [hX] at hm; exact hm, ho, fun h => hf (.inl h), fun h => hf (.inr h)⟩
/-- the pairs lie elsewhere than that row -/
def Apart (W : World) (sb : Nat) (v : Value) : Prop := ∃ A n c, W.cell? ⟨sb, 17, none⟩ = some (.slice A n c) ∧ ∀ q, v.ownBlock = some q → (Value.slice A n c).ownBlock ≠ some q
theorem SMem.chg52 {w0 W W' : World} {sb cb g q : Nat} {x : SS} {C : Array Value} {fr : Nat × Nat} (h : SMem w0 W sb cb g x) (hx : W.heap[q]? = some (.cells C 52 fr)) (hc : Chg (fun b => b = q) W W') (h0 : w0.heap.size ≤ q) {v : Value} (hv : v.ownBlock = some q) (ha : Apart W sb v) : SMem w0 W' sb cb g x ∧ Apart W' sb v := by
  have k : ∀ (b : Nat) (C' : Array Value) (t' : TypeId) (fr' : Nat × Nat), W.heap[b]? = some (.cells C' t' fr') → t' ≠ 52 → W'.heap[b]? = some (.cells C' t' fr') := fun b C' t' fr' hb' hne => (hc.block b (Array.getElem?_eq_some_iff.1 hb').1 (tag_ne hb' hx hne)).trans hb'
  obtain ⟨A, n, c, hs, hp⟩ := h.ex
  obtain ⟨A2, n2, c2, h17, hne⟩ := ha
  have e17 := hs.cells.2.2.2.1.1
  rw [h17] at e17
  have e := Option.some.inj e17
  rw [← e] at hs hp
  have hs' := k sb _ 82 (0, 0) hs (by decide)
  refine ⟨⟨h.m.frame hc (fun b hb => by subst hb; exact h0) (fun b hb => by subst hb; exact ⟨_, _, _, hx, by decide, by decide, by decide⟩), k cb _ 101 (0, 0) h.cl (by decide), ⟨A2, n2, c2, hs', ?_⟩, h.lo⟩, ⟨A2, n2, c2, (StB.cells hs').2.2.2.1.1, hne⟩⟩
  have en : n2 = n := by injection e
  subst en
  refine ⟨hp.1, ?_⟩
  rcases hp.2 with e | ⟨q', cap, cur, hv', hb', hg, r⟩
  · exact .inl e
  · refine .inr ⟨q', cap, cur, hv', hb', ?_, r⟩
    have hq : q' ≠ q := fun e => hne q hv (by rw [hv', e]; rfl)
    exact (hc.block q' (Array.getElem?_eq_some_iff.1 hg).1 hq).trans hg
end Go.Proofs.Ytbfhlleipeipbaa

/- What is proved: what stays of a store, of a row and of pairs told, where another's row is changed. Conditions: those in each statement. -/
namespace Go.Proofs.Ytbfhlleipeipbaa
open Go.RowKit Go.Lib Go.Sort

/-- a store, and a row of changes of the law's own beside it -/
structure Rw (w : World) (B sb cb g : Nat) (x : SS) (v : Value) (n : Nat) (xs : List Value) (W : World) : Prop where
  sm : SMem w W sb cb g x
  row : W.ownsRow B 52 3 v n xs
  ap : Apart W sb v
  lo : w.heap.size ≤ B
theorem Rw.len {w W : World} {B sb cb g n : Nat} {x : SS} {v : Value} {xs : List Value} (h : Rw w B sb cb g x v n xs W) : xs.length = n * 3 := h.row.1
theorem Rw.at {w W : World} {B sb cb g n : Nat} {x : SS} {v : Value} {xs : List Value} (h : Rw w B sb cb g x v n xs W) (hn : 0 < n) : ∃ q cap, v = .slice (some ⟨q, 0, none⟩) n cap := by
  rcases h.row.2 with ⟨_, e⟩ | ⟨q, cap, cur, e, _⟩
  · have := h.len; omega
  · exact ⟨q, cap, e⟩
theorem Rw.cell {w W : World} {B sb cb g n q cap : Nat} {x : SS} {xs : List Value} (h : Rw w B sb cb g x (.slice (some ⟨q, 0, none⟩) n cap) n xs W) {i : Nat} (hi : i < n * 3) : W.cell? ⟨q, i, none⟩ = xs[i]? ∧ W.frozen? ⟨q, i, none⟩ = false :=
  ⟨h.row.cellAt i hi, h.row.frozenAt i⟩
theorem row_block {W : World} {B n q cap : Nat} {xs : List Value} (h : W.ownsRow B 52 3 (.slice (some ⟨q, 0, none⟩) n cap) n xs) : ∃ C, W.heap[q]? = some (.cells C 52 (0, 0)) := by
  rcases h.2 with ⟨e, _⟩ | ⟨q', cap', cur, e, _, hg, _⟩
  · cases e
  · simp at e
    obtain ⟨rfl, rfl⟩ := e
    exact ⟨cur, hg⟩
theorem Rw.set {w W : World} {B sb cb g n q cap : Nat} {x : SS} {xs : List Value} (h : Rw w B sb cb g x (.slice (some ⟨q, 0, none⟩) n cap) n xs W) (i : Nat) (u : Value) :
    Rw w B sb cb g x (.slice (some ⟨q, 0, none⟩) n cap) n (xs.set i u) (W.setCell ⟨q, i, none⟩ u) := by
  obtain ⟨C, hC⟩ := row_block h.row
  have hc : Chg (fun b => b = q) W (W.setCell ⟨q, i, none⟩ u) := (Chg.refl (fun b => b = q) W).setCell (p := ⟨q, i, none⟩) (.inl rfl) _
  have hlt := (h.row.lt q rfl).1
  obtain ⟨h1, h2⟩ := h.sm.chg52 hC hc (Nat.le_trans h.lo hlt) rfl h.ap
  exact ⟨h1, (h.row.stored i u).1, h2, h.lo⟩
theorem Rw.below {w W W' : World} {B sb cb g n : Nat} {x : SS} {v : Value} {xs : List Value} (h : Rw w B sb cb g x v n xs W) (hb : Below W.heap.size W W') : Rw w B sb cb g x v n xs W' := by
  refine ⟨h.sm.below hb, own_belowG h.row hb, ?_, h.lo⟩
  obtain ⟨A, m, c, h1, h2⟩ := h.ap
  exact ⟨A, m, c, cell_later hb h1, h2⟩
/-- pairs told, beside such a row -/
theorem told_set {W : World} {B B' n m q cap i : Nat} {v : Value} {xs ys : List Value} {u : Value} (h : W.ownsRow B 48 3 v m ys) (hr : W.ownsRow B' 52 3 (.slice (some ⟨q, 0, none⟩) n cap) n xs) : (W.setCell ⟨q, i, none⟩ u).ownsRow B 48 3 v m ys := by
  obtain ⟨C, hC⟩ := row_block hr
  refine h.kept (hr.stored i u).2 ?_
  rcases h.2 with ⟨rfl, _⟩ | ⟨g, cap', cur, rfl, _, hg, _⟩
  · exact .inl rfl
  · refine .inr fun e => ?_
    simp [Value.ownBlock] at e
    subst e
    rw [hC] at hg
    simp at hg
/-- a row that was told now lies elsewhere than the pairs -/
theorem Apart.new {w0 w W : World} {B sb cb g n : Nat} {x : SS} {v : Value} {xs : List Value} (hx : SMem w0 w sb cb g x) (hb : Below w.heap.size w W) (hr : W.ownsRow w.heap.size 52 3 v n xs) (hB : B = w.heap.size) (hlo : w0.heap.size ≤ w.heap.size) : Rw w0 B sb cb g x v n xs W := by
  subst hB
  refine ⟨hx.below hb, hr, ?_, hlo⟩
  obtain ⟨A, m, c, hs, hp⟩ := hx.ex
  refine ⟨A, m, c, cell_later hb hs.cells.2.2.2.1.1, fun q hq e => ?_⟩
  have h1 := (hr.lt q hq).1
  have h2 := (hp.lt q e).2
  omega
/-- a row that was there lies elsewhere than pairs that are new -/
theorem Apart.old {w0 w W : World} {B sb cb g n : Nat} {x : SS} {v : Value} {xs : List Value} (hx : SMem w0 W sb cb g x) (hr : W.ownsRow B 52 3 v n xs) (hlt : ∀ q, v.ownBlock = some q → q < w.heap.size) (hn : ∃ A n c, W.cell? ⟨sb, 17, none⟩ = some (.slice A n c) ∧ W.ownsRow w.heap.size 52 3 (.slice A n c) n (chV x.P)) (hlo : w0.heap.size ≤ B) : Rw w0 B sb cb g x v n xs W := by
  refine ⟨hx, hr, ?_, hlo⟩
  obtain ⟨A, m, c, h1, h2⟩ := hn
  refine ⟨A, m, c, h1, fun q hq e => ?_⟩
  have h3 := hlt q hq
  have h4 := (h2.lt q e).1
  omega
/-- the row is as it was from there on -/
def From (l : List Cg) (j : Nat) (xs : List Value) : Prop := ∀ i, j * 3 ≤ i → xs[i]? = (chV l)[i]?
theorem From.set {l : List Cg} {j i : Nat} {xs : List Value} (h : From l j xs) (hi : i < (j + 1) * 3) (u : Value) : From l (j + 1) (xs.set i u) := by
  intro k hk
  rw [List.getElem?_set_ne (by omega)]
  exact h k (by omega)
theorem From.three {l : List Cg} {j : Nat} {xs : List Value} (h : From l j xs) (hj : j < l.length) : xs[j * 3]? = some (.string l[j].key) ∧ xs[j * 3 + 1]? = some (.string l[j].val) ∧ xs[j * 3 + 2]? = some (.bool l[j].gone) := by
  refine ⟨(h _ (by omega)).trans ?_, (h _ (by omega)).trans ?_, (h _ (by omega)).trans ?_⟩
  · rw [show j * 3 = j * 3 + 0 by omega, chV_get l j 0 hj (by omega)]; rfl
  · rw [chV_get l j 1 hj (by omega)]; rfl
  · rw [chV_get l j 2 hj (by omega)]; rfl
end Go.Proofs.Ytbfhlleipeipbaa

/- What is proved: how a slice of changes that comes in reads, and what the bound on what comes in says of it. Conditions: those in each statement. -/
namespace Go.Proofs.Ytbfhlleipeipbaa
open Go.ChangeShapes Go.WideShapes Go.ChangeAt Go.RowKit Go.Lib Go.Sort

theorem okWide_spot {P : Program} {w : World} {r : Reach} {base : Nat} {t e : TypeId} {A : Option Addr} {n c : Nat} (ht : P.underlying t = some (.slice e)) (h : Value.okWide P w r base t (.slice A n c)) : A = none ∨ ∃ b o, A = some ⟨b, o, none⟩ := by
  cases A with
  | none => exact .inl rfl
  | some a =>
    simp only [Value.okWide, ht, Cell.okWide, Cell.ok] at h
    obtain ⟨b, o, s⟩ := a
    obtain rfl : s = none := h.2.2.2.1
    exact .inr ⟨b, o, rfl⟩
theorem three_of {α : Type} (l : List α) (h : l.length = 3) : ∃ a b c, l = [a, b, c] := by
  match l, h with
  | [a, b, c], _ => exact ⟨a, b, c, rfl⟩
theorem bulk_str {H : Type} (s : ByteArray) : Rows.uptoBulk (DataW.lit (H := H) (.string s.data.toList)) = s.size + 1 := bulk_string s
/-- one change, from its three cells -/
theorem open_ch {H : Type} {enc : TypeId × Value → H} {W : World} {n : Nat} {a : Addr} {cs : List Value} {x : DataW H × List MemPlace} (hc : W.cells? 0 a 3 = some cs) (h : DataW.trod enc Try.prog W 0 (fun _ => true) true n 48 cs = some x) :
    ∃ y : Cg, W.cell? a = some (.string y.key) ∧ W.cell? (a.add 1) = some (.string y.val) ∧ W.cell? (a.add 2) = some (.bool y.gone) ∧ y.key.size + y.val.size ≤ Rows.uptoBulk x.1 := by
  obtain ⟨_, hlen, hcell⟩ := World.cells?_some hc
  obtain ⟨xs, k, _, hx', _, hxl, hf⟩ := DataW.trod_struct Try.underlying48 h
  obtain ⟨v0, v1, v2, rfl⟩ := three_of cs hlen
  obtain ⟨y0, y1, y2, rfl⟩ := three_of xs (by simpa using hxl)
  have c9 : Try.prog.cellsOf 9 = 1 := by kernel_rfl
  have c4 : Try.prog.cellsOf 4 = 1 := by kernel_rfl
  have g0 := hf 0 _ rfl
  have g1 := hf 1 _ rfl
  have g2 := hf 2 _ rfl
  obtain ⟨a0, e0, z0, _⟩ := DataW.trod_string Try.underlying9 (x := y0) (by simpa [c9] using g0)
  obtain ⟨a1, e1, z1, _⟩ := DataW.trod_string Try.underlying9 (x := y1) (by simpa [c9] using g1)
  obtain ⟨a2, e2, z2⟩ := DataW.trod_bool Try.underlying4 (x := y2) (by simpa [c4] using g2)
  simp at e0 e1 e2
  subst e0 e1 e2 z0 z1 z2
  have q0 := hcell 0 (by omega)
  have q1 := hcell 1 (by omega)
  have q2 := hcell 2 (by omega)
  refine ⟨⟨a0, a1, a2⟩, by simpa [Addr.add] using q0, by simpa using q1, by simpa using q2, ?_⟩
  rw [hx']
  simp only [List.map_cons, List.map_nil, Rows.uptoBulk, Rows.uptoBulkAll]
  have h0 := bulk_str (H := H) a0
  have h1 := bulk_str (H := H) a1
  simp only [Rows.uptoBulk] at h0 h1
  omega
theorem bulk_each {H : Type} (D : Nat → DataW H) : ∀ (n i : Nat), i < n → Rows.uptoBulk (D i) ≤ Rows.uptoBulkAll ((List.range n).map D) := by
  intro n
  induction n with
  | zero => intro i hi; omega
  | succ n ih =>
    intro i hi
    have app : ∀ (l r : List (DataW H)), Rows.uptoBulkAll (l ++ r) = Rows.uptoBulkAll l + Rows.uptoBulkAll r := by
      intro l r
      induction l with
      | nil => simp [Rows.uptoBulkAll]
      | cons x l ih => simp only [List.cons_append, Rows.uptoBulkAll, ih]; omega
    rw [List.range_succ, List.map_append, app]
    simp only [List.map_cons, List.map_nil, Rows.uptoBulkAll]
    by_cases h : i = n
    · subst h; omega
    · have := ih i (by omega); omega
/-- a batch that comes in -/
theorem open_chs {H : Type} {enc : TypeId × Value → H} {W : World} {A : Option Addr} {N C : Nat} {d : DataW H} {p : List MemPlace} (hA : A = none ∨ ∃ b o, A = some ⟨b, o, none⟩) (h : DataW.Trod enc Try.prog W 0 (fun _ => true) true 31 (.slice A N C) d p)
    (hfz : ∀ b off, MemPlace.cell b off ∈ p → W.frozen? ⟨b, off, none⟩ = false) (hbu : Rows.uptoBulk d ≤ 1048576) :
    ∃ l : List Cg, HC W A N C l ∧ (∀ y ∈ l, y.key.size + y.val.size ≤ 1048576) ∧ N + 1 ≤ Rows.uptoBulk d := by
  obtain ⟨fuel, hf⟩ := h
  rcases Deep.open_slice Try.underlying31 hf with ⟨hcs, hx⟩ | ⟨x, n', c', m, n, D, Pl, hcs, _, hl, hm, hz, hx, hcell⟩
  · simp [Value.cells] at hcs
    obtain ⟨rfl, rfl, rfl⟩ := hcs
    have hd : d = .nil := by injection hx
    subst hd
    exact ⟨[], HC.nil _ _ (.inl rfl), by simp, by simp [Rows.uptoBulk]⟩
  · simp [Value.cells] at hcs
    obtain ⟨rfl, rfl, rfl⟩ := hcs
    simp only [if_true] at hz
    subst hz
    obtain ⟨b, off, rfl⟩ : ∃ b o, x = ⟨b, o, none⟩ := by
      rcases hA with e | ⟨b, o, e⟩
      · cases e
      · exact ⟨b, o, Option.some.inj e⟩
    have hd : d = .slice ((List.range N).map D) ((List.range (m - N)).map fun j => D (N + j)) := by injection hx
    have hp : p = MemPlace.row ⟨b, off, none⟩ (m * Try.prog.cellsOf 48) ++ (List.range m).flatMap Pl := by injection hx
    have hbu' := hbu
    rw [hd] at hbu'
    simp only [Rows.uptoBulk] at hbu'
    have ce : Try.prog.cellsOf 48 = 3 := by kernel_rfl
    have each : ∀ i, i < N → ∃ q : Cg, W.cell? ((⟨b, off, none⟩ : Addr).add (i * 3)) = some (.string q.key) ∧ W.cell? (((⟨b, off, none⟩ : Addr).add (i * 3)).add 1) = some (.string q.val) ∧ W.cell? (((⟨b, off, none⟩ : Addr).add (i * 3)).add 2) = some (.bool q.gone) ∧ q.key.size + q.val.size ≤ 1048576 := by
      intro i hi
      obtain ⟨cs', h1, h2⟩ := hcell i (by omega)
      rw [ce] at h1
      have hbi := bulk_each D N i hi
      obtain ⟨y, k0, k1, k2, k3⟩ := open_ch h1 h2
      refine ⟨y, k0, k1, k2, ?_⟩
      have k3' : y.key.size + y.val.size ≤ Rows.uptoBulk (D i) := k3
      omega
    obtain ⟨q, hq⟩ := Deep.choose_lt each
    have hbl := bulk_list ((List.range N).map D)
    refine ⟨(List.range N).map q, ⟨by simp, hl, fun hN => ⟨b, off, rfl, ?_, fun u hu => ?_⟩, .inr ⟨b, off, rfl⟩⟩, ?_, ?_⟩
    · have := (hq 0 hN).1
      exact World.block_lt_of_cell? W _ this
    · have hu' : u < ((List.range N).map q).length * 3 := by simpa using hu
      have hu2 : u < N * 3 := by simpa using hu
      rw [flatK_get3 _ u hu']
      refine ⟨?_, hfz b (off + u) ?_⟩
      · obtain ⟨i, t, ht, rfl⟩ : ∃ i t, t < 3 ∧ u = i * 3 + t := ⟨u / 3, u % 3, Nat.mod_lt _ (by omega), by omega⟩
        have hi : i < N := by omega
        obtain ⟨h0, h1, h2, _⟩ := hq i hi
        simp only [Addr.add_lit] at h0 h1 h2
        have hg := chV_get ((List.range N).map q) i t (by simpa using hi) ht
        have hl3 : i * 3 + t < (chV ((List.range N).map q)).length := by rw [chV_length]; simpa using hu2
        rw [List.getElem?_eq_getElem hl3] at hg
        have hgi : ((List.range N).map q)[i]'(by simpa using hi) = q i := by simp
        rw [hgi] at hg
        rw [← Nat.add_assoc]
        show W.cell? _ = some (id (chV ((List.range N).map q))[i * 3 + t])
        rw [id, hg]
        match t, ht with
        | 0, _ => exact h0
        | 1, _ => exact h1
        | 2, _ => exact h2
      · rw [hp]
        refine List.mem_append_left _ (List.mem_map.2 ⟨u, List.mem_range.2 ?_, rfl⟩)
        rw [ce]
        have : N * 3 ≤ m * 3 := Nat.mul_le_mul_right 3 hl
        omega
    · intro y hy
      obtain ⟨i, hi, rfl⟩ := List.mem_map.1 hy
      exact (hq i (List.mem_range.1 hi)).2.2.2
    · rw [hd]
      simp only [Rows.uptoBulk]
      simp at hbl
      omega
end Go.Proofs.Ytbfhlleipeipbaa

/- What is proved: contracts of the document's Int, Text, Bool and of its bytes of a batch: batB. Conditions: those in each statement. -/
namespace Go.Proofs.Ytbfhlleipeipbaa
open Go.RowKit

set_option maxHeartbeats 400000 in
theorem refInt_any (A : Option Addr) (n c : Nat) (l : List UInt8) (x : Int) (w : World) (h : Hold w A n c l) (hn : n ≤ 140737488355000) :
    Calls Try.prog 58 #[.slice A n c, .int .i64 x] w (NewRow w (l ++ dig x)) := by
  have H := Lib.hid h
  clear h
  go_enter Try.func58, Try.ntmps58
  go_wp2_with (first
    | (at_builtin; refine wpList_append_hold rfl (.tmp 6) (.tmp 7) rfl w.heap.size (.slice none 0 0) 0 [] rfl (World.ownsRow_nil _ _ _ _) A n c l rfl H.out (by omega) (Nat.le_refl _) ?_; intro A1 c1 w1 hown1 hgrow1; simp only [Nat.zero_add, List.nil_append] at hown1; have hb1 : Below w.heap.size w w1 := (Below.refl _ _).grown hgrow1 (Nat.le_refl _) (by simp [Value.ownBlock]))
    | (go_at_call 37; refine (digits_any x w1).mono ?_; rintro e w2 ⟨v2, rfl, hown2, hb2⟩; obtain ⟨A2, c2, hv2⟩ := own_form hown2; rw [hv2] at hown2 ⊢; clear hv2)
    | (at_builtin; refine wpList_append_hold rfl (.tmp 9) (.tmp 11) rfl w.heap.size (.slice A1 n c1) n l rfl (hown1.kept (row := none) ⟨hb2.os, hb2.tape, hb2.output, hb2.size, fun k hk _ => hb2.block k hk⟩ (by cases hv : (Value.slice A1 n c1).ownBlock <;> simp)) A2 8 c2 (dig x) rfl (Hold.of_own hown2) (by omega) (Nat.le_trans hb1.size hb2.size) ?_; intro A3 c3 w3 hown3 hgrow3))
  go_ret
  exact ⟨A3, _, c3, rfl, hown3, (hb1.trans (hb2.mono hb1.size)).grown hgrow3 (Nat.le_trans hb1.size hb2.size) (fun k hk => (hown1.lt k hk).1)⟩

set_option maxHeartbeats 400000 in
theorem refText_any (A : Option Addr) (n c : Nat) (l : List UInt8) (s : ByteArray) (w : World) (h : Hold w A n c l) (hn : n + s.size ≤ 140737488354000) :
    Calls Try.prog 38 #[.slice A n c, .string s] w (NewRow w (l ++ dig s.size ++ s.data.toList)) := by
  obtain ⟨i0, hi, hz0, hz1, hz2⟩ := info_parts Try.info5
  have H := Lib.hid h
  clear h
  go_enter Try.func38, Try.ntmps38
  go_wp2_with (first
    | (go_at_call 58; refine (refInt_any A n c l s.size w H.out (by omega)).mono ?_; rintro e w1 ⟨A1, n1, c1, rfl, hown1, hb1⟩; have hn1 : n1 ≤ n + 8 := (by have h1 := hown1.1; rw [bv_length, List.length_append, dig_length, H.out.len] at h1; omega))
    | (at_builtin; refine Lib.wpList_append_own_string _ rfl (.tmp 8) (.tmp 9) 43 9 rfl w.heap.size 5 i0 Try.underlying43 Try.underlying9 hi hz0 hz1 hz2 (.slice A1 n1 c1) n1 (bv (l ++ dig s.size)) rfl hown1 s rfl (by unfold maxLen; omega) (by omega) hb1.size ?_; intro v2 w2 hown2 hgrow2 _))
  obtain ⟨A2, c2, hv2⟩ := own_form hown2
  rw [bv_str, ← bv_append] at hown2
  rw [hv2] at hown2 ⊢
  go_wp2
  go_ret
  exact ⟨A2, _, c2, rfl, hown2, hb1.grown hgrow2 hb1.size (fun k hk => (hown1.lt k hk).1)⟩

set_option maxHeartbeats 400000 in
theorem refBool_any (A : Option Addr) (n c : Nat) (l : List UInt8) (x : Bool) (w : World) (h : Hold w A n c l) (hn : n ≤ 140737488354000) :
    Calls Try.prog 39 #[.slice A n c, .bool x] w (NewRow w (l ++ [if x then 1 else 0])) := by
  have H := Lib.hid h
  clear h
  cases x
  · go_enter Try.func39, Try.ntmps39
    go_wp2_with (first
      | (at_builtin; refine wpList_append_hold rfl (.tmp 6) (.tmp 7) rfl w.heap.size (.slice none 0 0) 0 [] rfl (World.ownsRow_nil _ _ _ _) A n c l rfl H.out (by omega) (Nat.le_refl _) ?_; intro A1 c1 w1 hown1 hgrow1; simp only [Nat.zero_add, List.nil_append] at hown1; have hb1 : Below w.heap.size w w1 := (Below.refl _ _).grown hgrow1 (Nat.le_refl _) (by simp [Value.ownBlock]))
      | (at_builtin; refine wpList_append_hold rfl (.tmp 13) (.tmp 14) rfl w.heap.size (.slice A1 n c1) n l rfl (hown1.alloc _) (some ⟨w1.heap.size, 0, none⟩) 1 1 [0] rfl (Hold.new w1 [0] 5 (0, 0) _ rfl) (by omega) (by have := hb1.size; simp; omega) ?_; intro A3 c3 w3 hown3 hgrow3))
    go_ret
    exact ⟨A3, _, c3, rfl, hown3, (hb1.alloc hb1.size _).grown hgrow3 (by have := hb1.size; simp; omega) (fun k hk => (hown1.lt k hk).1)⟩
  · go_enter Try.func39, Try.ntmps39
    go_wp2_with (first
      | (at_builtin; refine wpList_append_hold rfl (.tmp 6) (.tmp 7) rfl w.heap.size (.slice none 0 0) 0 [] rfl (World.ownsRow_nil _ _ _ _) A n c l rfl H.out (by omega) (Nat.le_refl _) ?_; intro A1 c1 w1 hown1 hgrow1; simp only [Nat.zero_add, List.nil_append] at hown1; have hb1 : Below w.heap.size w w1 := (Below.refl _ _).grown hgrow1 (Nat.le_refl _) (by simp [Value.ownBlock]))
      | (at_builtin; refine wpList_append_hold rfl (.tmp 10) (.tmp 11) rfl w.heap.size (.slice A1 n c1) n l rfl (hown1.alloc _) (some ⟨w1.heap.size, 0, none⟩) 1 1 [1] rfl (Hold.new w1 [1] 5 (0, 0) _ rfl) (by omega) (by have := hb1.size; simp; omega) ?_; intro A3 c3 w3 hown3 hgrow3))
    go_ret
    exact ⟨A3, _, c3, rfl, hown3, (hb1.alloc hb1.size _).grown hgrow3 (by have := hb1.size; simp; omega) (fun k hk => (hown1.lt k hk).1)⟩
theorem chsB_snoc (l : List Cg) (j : Nat) (h : j < l.length) : chsB (l.take (j + 1)) = chsB (l.take j) ++ chB l[j] := by
  rw [List.take_succ_eq_append_getElem h, chsB_append]
  congr 1
  unfold chsB
  simp
theorem chB_yes (k v : ByteArray) : chB ⟨k, v, true⟩ = (dig k.size ++ k.data.toList) ++ [1] := by
  unfold chB txB ky vl
  simp
theorem chB_no (k v : ByteArray) : chB ⟨k, v, false⟩ = ((dig k.size ++ k.data.toList) ++ [0]) ++ (dig v.size ++ v.data.toList) := by
  unfold chB txB ky vl
  simp
end Go.Proofs.Ytbfhlleipeipbaa

/- What is proved: the contract of the document's bytes of a batch: batB. Conditions: those in each statement. -/
namespace Go.Proofs.Ytbfhlleipeipbaa
open Go.RowKit

/-- the bytes so far -/
structure By (w : World) (v : Value) (m : Nat) (bs : List UInt8) (W : World) : Prop where
  row : W.ownsRow w.heap.size 5 1 v m (bv bs)
  bel : Below w.heap.size w W
theorem By.called {w W W' : World} {v : Value} {m : Nat} {bs : List UInt8} (h : By w v m bs W) (hb : Below W.heap.size W W') : By w v m bs W' := ⟨own_below h.row hb, h.bel.trans (hb.mono h.bel.size)⟩
theorem By.more {w W W' : World} {v v' : Value} {m m' : Nat} {bs bs' : List UInt8} (h : By w v m bs W) (ho : W'.ownsRow w.heap.size 5 1 v' m' (bv bs')) (hg : W.grownBy W' v.ownBlock) : By w v' m' bs' W' :=
  ⟨ho, h.bel.grown hg h.bel.size (fun k hk => (h.row.lt k hk).1)⟩
theorem By.len {w W : World} {v : Value} {m : Nat} {bs : List UInt8} (h : By w v m bs W) : bs.length = m := by
  have := h.row.1
  rw [bv_length] at this
  omega

set_option maxRecDepth 100000 in
set_option maxHeartbeats 4000000 in
theorem Bytes_any (A : Option Addr) (n c : Nat) (l : List Cg) (w : World) (h : HC w A n c l) (hs : Small l) : Calls Try.prog 19 #[.slice A n c] w (NewRow w (batB l)) := by
  have H := Lib.hid h
  have HN := Lib.hid h.1
  have HS := Lib.hid hs
  have hn : n ≤ 300 := by rw [← h.1]; exact hs.n
  clear h hs
  go_enter Try.func19, Try.ntmps19
  go_wp2_with (go_at_call 37; refine (digits_any (n : Int) w).mono ?_; rintro e w1 ⟨v, rfl, ho, hb⟩; have HB1 : Hid (By w v 8 (dig (n : Int)) w1) := Lib.hid ⟨ho, hb⟩; clear ho hb; obtain ⟨A1, c1, rfl⟩ := own_form HB1.out.row)
  go_loopg [3, 4] n (fun kx v3 v4 wr => ∃ (j m : Nat), v4 = .int .i64 (j : Int) ∧ j ≤ n ∧ n - j ≤ kx ∧ m ≤ 8 + j * 1048593 ∧ Hid (By w v3 m (dig (n : Int) ++ chsB (l.take j)) wr))
  case atStart => exact ⟨0, 8, rfl, Nat.zero_le _, by omega, by omega, by simpa [chsB] using HB1⟩
  case round =>
    obtain ⟨j, m, rfl, hjn, hkx, hm, HB⟩ := hrel
    obtain ⟨A3, c3, rfl⟩ := own_form HB.out.row
    by_cases hj : j < n
    · have hjl : j < l.length := by rw [HN.out]; exact hj
      have hltz : (j : Int) < (n : Int) := by omega
      have hsz := HS.out.s _ (List.getElem_mem hjl)
      have HSN := Lib.hid (chsB_snoc l j hjl)
      have HCB := Lib.hid (chB_top l[j])
      obtain ⟨b, o, rfl, hbl, f0, f1, f2⟩ := H.out.elem j hjl
      have G := Lib.hid (fun (W : World) (hb : Below w.heap.size w W) => And.intro (cell_later hb f0) (And.intro (cell_later hb f1) (cell_later hb f2)))
      clear f0 f1 f2
      generalize l[j] = y at *
      obtain ⟨yk, yv, yg⟩ := y
      simp only at hsz
      obtain ⟨f0, f1, f2⟩ := G.out wr HB.out.bel
      have hm2 : m ≤ 320000000 := by omega
      have h38k : 0 + yk.size ≤ 140737488354000 := by omega
      have h38v : 0 + yv.size ≤ 140737488354000 := by omega
      cases yg
      · have HY := Lib.hid (chB_no yk yv)
        go_wp2_with (first
          | (go_at_call 38; (with_reducible refine (refText_any none 0 0 [] yk wr (Hold.nil _) h38k).mono ?_); rintro e2 w2 ⟨A4, n4, c4, rfl, ho2, hb2⟩; have HR2 := Lib.hid (Hold.of_own ho2); have HB2 := Lib.hid (HB.out.called hb2); have hn4 : n4 ≤ 8 + yk.size := (by have := (Hold.of_own ho2).1; simp [dig_length] at this; omega); clear ho2 hb2)
          | (at_builtin; refine wpList_append_hold rfl (.tmp 14) (.tmp 20) rfl w.heap.size (.slice A3 m c3) m (dig (n : Int) ++ chsB (l.take j)) rfl HB2.out.row A4 n4 c4 ([] ++ dig yk.size ++ yk.data.toList) rfl HR2.out (by omega) HB2.out.bel.size ?_; intro A5 c5 w3 ho3 hg3; have HB3 := Lib.hid (HB2.out.more ho3 hg3); obtain ⟨d0, d1, d2⟩ := G.out w3 HB3.out.bel; clear ho3 hg3)
          | (go_at_call 39; (with_reducible refine (refBool_any none 0 0 [] false w3 (Hold.nil _) (by omega)).mono ?_); rintro e4 w4 ⟨A6, n6, c6, rfl, ho4, hb4⟩; have HR4 := Lib.hid (Hold.of_own ho4); have HB4 := Lib.hid (HB3.out.called hb4); have hn6 : n6 ≤ 1 := (by have := (Hold.of_own ho4).1; simp at this; omega); clear ho4 hb4)
          | (at_builtin; refine wpList_append_hold rfl (.tmp 22) (.tmp 28) rfl w.heap.size (.slice A5 (m + n4) c5) (m + n4) (dig (n : Int) ++ chsB (l.take j) ++ ([] ++ dig yk.size ++ yk.data.toList)) rfl HB4.out.row A6 n6 c6 ([] ++ [if false then 1 else 0]) rfl HR4.out (by omega) HB4.out.bel.size ?_; intro A7 c7 w5 ho5 hg5; have HB5 := Lib.hid (HB4.out.more ho5 hg5); obtain ⟨p0, p1, p2⟩ := G.out w5 HB5.out.bel; clear ho5 hg5)
          | (go_at_call 38; (with_reducible refine (refText_any none 0 0 [] yv w5 (Hold.nil _) h38v).mono ?_); rintro e6 w6 ⟨A8, n8, c8, rfl, ho6, hb6⟩; have HR6 := Lib.hid (Hold.of_own ho6); have HB6 := Lib.hid (HB5.out.called hb6); have hn8 : n8 ≤ 8 + yv.size := (by have := (Hold.of_own ho6).1; simp [dig_length] at this; omega); clear ho6 hb6)
          | (at_builtin; refine wpList_append_hold rfl (.tmp 36) (.tmp 42) rfl w.heap.size (.slice A7 (m + n4 + n6) c7) (m + n4 + n6) (dig (n : Int) ++ chsB (l.take j) ++ ([] ++ dig yk.size ++ yk.data.toList) ++ ([] ++ [if false then 1 else 0])) rfl HB6.out.row A8 n8 c8 ([] ++ dig yv.size ++ yv.data.toList) rfl HR6.out (by omega) HB6.out.bel.size ?_; intro A9 c9 w7 ho7 hg7; have HB7 := Lib.hid (HB6.out.more ho7 hg7); clear ho7 hg7))
        go_roundg (n - (j + 1))
        case measure => omega
        case rel => exact ⟨j + 1, m + n4 + n6 + n8, by go_num, by omega, Nat.le_refl _, by omega, Lib.hid (by
          rw [HSN.out, HY.out]
          have := HB7.out
          simpa [List.append_assoc] using this)⟩
      · have HY := Lib.hid (chB_yes yk yv)
        go_wp2_with (first
          | (go_at_call 38; (with_reducible refine (refText_any none 0 0 [] yk wr (Hold.nil _) h38k).mono ?_); rintro e2 w2 ⟨A4, n4, c4, rfl, ho2, hb2⟩; have HR2 := Lib.hid (Hold.of_own ho2); have HB2 := Lib.hid (HB.out.called hb2); have hn4 : n4 ≤ 8 + yk.size := (by have := (Hold.of_own ho2).1; simp [dig_length] at this; omega); clear ho2 hb2)
          | (at_builtin; refine wpList_append_hold rfl (.tmp 14) (.tmp 20) rfl w.heap.size (.slice A3 m c3) m (dig (n : Int) ++ chsB (l.take j)) rfl HB2.out.row A4 n4 c4 ([] ++ dig yk.size ++ yk.data.toList) rfl HR2.out (by omega) HB2.out.bel.size ?_; intro A5 c5 w3 ho3 hg3; have HB3 := Lib.hid (HB2.out.more ho3 hg3); obtain ⟨d0, d1, d2⟩ := G.out w3 HB3.out.bel; clear ho3 hg3)
          | (go_at_call 39; (with_reducible refine (refBool_any none 0 0 [] true w3 (Hold.nil _) (by omega)).mono ?_); rintro e4 w4 ⟨A6, n6, c6, rfl, ho4, hb4⟩; have HR4 := Lib.hid (Hold.of_own ho4); have HB4 := Lib.hid (HB3.out.called hb4); have hn6 : n6 ≤ 1 := (by have := (Hold.of_own ho4).1; simp at this; omega); clear ho4 hb4)
          | (at_builtin; refine wpList_append_hold rfl (.tmp 22) (.tmp 28) rfl w.heap.size (.slice A5 (m + n4) c5) (m + n4) (dig (n : Int) ++ chsB (l.take j) ++ ([] ++ dig yk.size ++ yk.data.toList)) rfl HB4.out.row A6 n6 c6 ([] ++ [if true then 1 else 0]) rfl HR4.out (by omega) HB4.out.bel.size ?_; intro A7 c7 w5 ho5 hg5; have HB5 := Lib.hid (HB4.out.more ho5 hg5); obtain ⟨p0, p1, p2⟩ := G.out w5 HB5.out.bel; clear ho5 hg5))
        go_roundg (n - (j + 1))
        case measure => omega
        case rel => exact ⟨j + 1, m + n4 + n6, by go_num, by omega, Nat.le_refl _, by omega, Lib.hid (by
          rw [HSN.out, HY.out]
          have := HB5.out
          simpa [List.append_assoc] using this)⟩
    · obtain rfl : j = n := by omega
      have HE := Lib.hid (show l.take j = l by rw [List.take_of_length_le (by rw [HN.out]; exact Nat.le_refl _)])
      go_wp2
      go_ret
      refine ⟨A3, m, c3, rfl, ?_, HB.out.bel⟩
      have := HB.out.row
      rw [HE.out] at this
      unfold batB
      rw [HN.out]
      exact this
end Go.Proofs.Ytbfhlleipeipbaa

/- What is proved: of rising pairs those that begin so lie side by side; the last pair of a key is the one. Conditions: those in each statement. -/
namespace Go.Proofs.Ytbfhlleipeipbaa
open Go.RowKit Go.Lib Go.Sort

/-- begins so, by recursion -/
def pre2 : List UInt8 → List UInt8 → Bool
  | [], _ => true
  | _ :: _, [] => false
  | a :: p, b :: l => a == b && pre2 p l
theorem preB_eq : ∀ p l, preB p l = pre2 p l
  | [], l => by simp [preB, pre2]
  | a :: p, [] => by simp [preB, pre2]
  | a :: p, b :: l => by
    have ih := preB_eq p l
    unfold preB at ih ⊢
    simp only [List.length_cons, List.take_succ_cons, pre2]
    rw [← ih]
    have e : decide (p.length + 1 ≤ l.length + 1) = decide (p.length ≤ l.length) := by congr 1; simp
    rw [e]
    by_cases hab : a = b
    · subst hab
      simp
    · have h1 : (a == b) = false := by simpa using hab
      have h2 : ((b :: l.take p.length) == (a :: p)) = false := by
        rw [List.cons_beq_cons]
        have : (b == a) = false := by simpa using fun e => hab e.symm
        rw [this, Bool.false_and]
      rw [h1, h2]
      simp
theorem pre_ge : ∀ (t l : List UInt8), pre2 t l = true → ¬ compareBytes l t < 0
  | [], [], _ => by simp [compareBytes]
  | [], b :: l, _ => by simp [compareBytes]
  | a :: t, [], h => by simp [pre2] at h
  | a :: t, b :: l, h => by
    simp only [pre2, Bool.and_eq_true, beq_iff_eq] at h
    obtain ⟨rfl, h⟩ := h
    have := pre_ge t l h
    simpa [compareBytes] using this
/-- what lies between a beginning and what begins so begins so -/
theorem pre_mid : ∀ (t a b : List UInt8), ¬ compareBytes a t < 0 → compareBytes a b < 0 → pre2 t b = true → pre2 t a = true
  | [], _, _, _, _, _ => rfl
  | x :: t, [], _, h, _, _ => by simp [compareBytes] at h
  | x :: t, y :: a, [], _, h, _ => by simp [compareBytes] at h
  | x :: t, y :: a, z :: b, h1, h2, h3 => by
    simp only [pre2, Bool.and_eq_true, beq_iff_eq] at h3 ⊢
    obtain ⟨rfl, h3⟩ := h3
    simp only [compareBytes] at h1 h2
    by_cases hxy : y = x
    · subst hxy
      simp at h1 h2
      exact ⟨rfl, pre_mid t a b (by omega) h2 h3⟩
    · exfalso
      have hne : y.toNat ≠ x.toNat := fun e => hxy (UInt8.toNat_inj.1 e)
      rcases Nat.lt_or_gt_of_ne hne with hlt | hgt
      · have : y < x := UInt8.lt_iff_toNat_lt.2 hlt
        simp_all
      · have : x < y := UInt8.lt_iff_toNat_lt.2 hgt
        have h' : ¬ y < x := fun h => by have := UInt8.lt_iff_toNat_lt.1 h; omega
        simp_all
theorem asc_tail {x : Cg} {P : List Cg} (h : Asc (x :: P)) : Asc P := (List.pairwise_cons.1 h).2
theorem asc_head {x : Cg} {P : List Cg} (h : Asc (x :: P)) : ∀ y ∈ P, compareBytes (ky x) (ky y) < 0 := fun y hy => (klt_iff x y).1 ((List.pairwise_cons.1 h).1 y hy)
/-- behind the first that does not begin so none does -/
theorem filter_tw (t : List UInt8) : ∀ P : List Cg, Asc P → (∀ y ∈ P, ¬ compareBytes (ky y) t < 0) → P.filter (fun c => preB t (ky c)) = P.takeWhile fun c => preB t (ky c)
  | [], _, _ => rfl
  | x :: P, ha, hg => by
    have ih := filter_tw t P (asc_tail ha) (fun y hy => hg y (List.mem_cons_of_mem _ hy))
    by_cases hx : preB t (ky x) = true
    · rw [List.filter_cons_of_pos (p := fun c => preB t (ky c)) hx, List.takeWhile_cons_of_pos (p := fun c => preB t (ky c)) hx, ih]
    · rw [List.filter_cons_of_neg (p := fun c => preB t (ky c)) hx, List.takeWhile_cons_of_neg (p := fun c => preB t (ky c)) hx]
      rw [List.filter_eq_nil_iff]
      intro y hy hy2
      apply hx
      rw [preB_eq] at hy2 ⊢
      exact pre_mid t (ky x) (ky y) (hg x (List.mem_cons_self ..)) (asc_head ha y hy) hy2
theorem und_filter (t : List UInt8) : ∀ P : List Cg, Asc P → undL P t = P.filter fun c => preB t (ky c)
  | [], _ => rfl
  | x :: P, ha => by
    have ih := und_filter t P (asc_tail ha)
    unfold undL lowN at ih ⊢
    by_cases hx : lessT t x = true
    · have hlt : compareBytes (ky x) t < 0 := by simpa [lessT] using hx
      have hn : ¬ preB t (ky x) = true := fun h => by
        rw [preB_eq] at h
        exact pre_ge t (ky x) h hlt
      rw [List.takeWhile_cons_of_pos hx, List.filter_cons_of_neg (p := fun c => preB t (ky c)) hn, ← ih]
      rfl
    · have hge : ¬ compareBytes (ky x) t < 0 := by simpa [lessT] using hx
      rw [List.takeWhile_cons_of_neg hx]
      simp only [List.length_nil, List.drop_zero]
      refine (filter_tw t (x :: P) ha (fun y hy => ?_)).symm
      rcases List.mem_cons.1 hy with rfl | hy
      · exact hge
      · intro h
        have h1 := asc_head ha y hy
        exact hge (cb_trans _ _ _ h1 h)
/-- the last pair of a key, and whether there is one -/
def stepV (t : List UInt8) (a : ByteArray × Bool) (c : Cg) : ByteArray × Bool := if ky c = t then (c.val, true) else a
def lastV (P : List Cg) (t : List UInt8) : ByteArray × Bool := P.foldl (stepV t) (⟨#[]⟩, false)
theorem lastV_snoc (P : List Cg) (t : List UInt8) (j : Nat) (h : j < P.length) : lastV (P.take (j + 1)) t = stepV t (lastV (P.take j) t) P[j] := by
  unfold lastV
  rw [List.take_succ_eq_append_getElem h, List.foldl_append]
  rfl
theorem foldV_none (t : List UInt8) : ∀ (P : List Cg) (a : ByteArray × Bool), (∀ y ∈ P, ky y ≠ t) → P.foldl (stepV t) a = a
  | [], a, _ => rfl
  | x :: P, a, h => by
    have hx : stepV t a x = a := by unfold stepV; rw [if_neg (h x (List.mem_cons_self ..))]
    rw [List.foldl_cons, hx]
    exact foldV_none t P a (fun y hy => h y (List.mem_cons_of_mem _ hy))
theorem lastV_eq (t : List UInt8) : ∀ P : List Cg, Asc P → lastV P t = valOf P t
  | [], _ => rfl
  | x :: P, ha => by
    have ih := lastV_eq t P (asc_tail ha)
    unfold lastV valOf at ih ⊢
    rw [List.foldl_cons]
    by_cases hx : ky x = t
    · have h1 : hasKey t x = true := by simpa [hasKey] using hx
      have h2 : stepV t (⟨#[]⟩, false) x = (x.val, true) := by unfold stepV; rw [if_pos hx]
      rw [h2, List.find?_cons_of_pos h1]
      refine foldV_none t P _ (fun y hy e => ?_)
      have := asc_head ha y hy
      rw [hx, e] at this
      exact absurd this (by rw [cb_self]; omega)
    · have h1 : ¬ hasKey t x = true := by simpa [hasKey] using hx
      have h2 : stepV t (⟨#[]⟩, false) x = (⟨#[]⟩, false) := by unfold stepV; rw [if_neg hx]
      rw [h2, List.find?_cons_of_neg h1]
      exact ih
end Go.Proofs.Ytbfhlleipeipbaa

/- What is proved: the walk of StoreFinds: it answers true, and turns nothing that was there. Conditions: each change's texts have at most 1048576 bytes together. -/
namespace Go.Proofs.Ytbfhlleipeipbaa
open Go.RowKit Go.Lib Go.Sort

/-- what the operations of the line yield -/
def fnF (b1 o1 nu cu b2 o2 cx j : Nat) (xk xv : ByteArray) : Nat → Value → World → Prop
  | 0, v, _ => v = .slice (some ⟨b1, o1, none⟩) nu cu
  | 1, v, _ => v = .int .i64 (j : Int)
  | 2, v, _ => v = .pointer (some ⟨b1, o1 + j * 3, none⟩)
  | 3, v, _ => v = .pointer (some ⟨b1, o1 + j * 3, none⟩)
  | 4, v, _ => v = .string xk
  | 5, v, _ => v = .slice (some ⟨b2, o2, none⟩) nu cx
  | 6, v, _ => v = .int .i64 (j : Int)
  | 7, v, _ => v = .pointer (some ⟨b2, o2 + j * 3, none⟩)
  | 8, v, _ => v = .pointer (some ⟨b2, o2 + j * 3, none⟩)
  | 9, v, _ => v = .string xk
  | 10, v, _ => v = .bool false
  | 11, v, _ => v = .bool false
  | 12, v, _ => v = .slice (some ⟨b1, o1, none⟩) nu cu
  | 13, v, _ => v = .int .i64 (j : Int)
  | 14, v, _ => v = .pointer (some ⟨b1, o1 + j * 3, none⟩)
  | 15, v, _ => v = .pointer (some ⟨b1, o1 + j * 3 + 1, none⟩)
  | 16, v, _ => v = .string xv
  | 17, v, _ => v = .slice (some ⟨b2, o2, none⟩) nu cx
  | 18, v, _ => v = .int .i64 (j : Int)
  | 19, v, _ => v = .pointer (some ⟨b2, o2 + j * 3, none⟩)
  | 20, v, _ => v = .pointer (some ⟨b2, o2 + j * 3 + 1, none⟩)
  | 21, v, _ => v = .string xv
  | 22, v, _ => v = .bool false
  | 23, v, _ => v = .bool false
  | 24, v, _ => v = .bool false
  | 25, v, _ => v = .slice (some ⟨b1, o1, none⟩) nu cu
  | 26, v, _ => v = .int .i64 (j : Int)
  | 27, v, _ => v = .pointer (some ⟨b1, o1 + j * 3, none⟩)
  | 28, v, _ => v = .pointer (some ⟨b1, o1 + j * 3 + 2, none⟩)
  | 29, v, _ => v = .bool false
  | 30, v, _ => v = .bool false
  | _, v, _ => v = .bool false
theorem fnF_mono {b1 o1 nu cu b2 o2 cx j : Nat} {xk xv : ByteArray} : ∀ i v (w w' : World), fnF b1 o1 nu cu b2 o2 cx j xk xv i v w → w' = w → fnF b1 o1 nu cu b2 o2 cx j xk xv i v w' := by
  rintro i v w w' h rfl
  exact h
set_option maxRecDepth 100000 in
set_option maxHeartbeats 4000000 in
theorem finds_walk (A : Option Addr) (n c : Nat) (l : List Cg) (key pfx : ByteArray) (w : World) (hl : HC w A n c l) (hsm : ∀ y ∈ l, y.key.size + y.val.size ≤ 1048576) : Calls Try.prog 4 #[.slice A n c, .string key, .string pfx] w fun e w' => e = .returned (.bool true) ∧ Below w.heap.size w w' := by
  have HN := Lib.hid (new_mine w w 4000 (Below.refl _ _))
  have HL := Lib.hid hl
  have HSM := Lib.hid hsm
  have hln := Lib.hid hl.1
  clear hl hsm
  go_enter Try.func4, Try.ntmps4
  go_wp2_with fail
  refine HN.out.mono ?_
  rintro e1 w1 ⟨g, rfl, hm1, hb1, hg1⟩
  have hm1' : Mine w w1 g (newSt 4000) := hm1
  have HO := Lib.hid (open_new hm1' (by omega))
  clear hm1 hm1' hb1 HN
  go_wp2_with (go_at_call 9; refine HO.out.mono ?_; rintro e2 w2 ⟨sb, cb, rfl, hx2, ho2, hsb⟩; have HX2 := Lib.hid hx2; clear hx2 ho2 HO)
  refine (awake_any w2).mono ?_
  rintro e3 w3 ⟨rfl, hb3⟩
  have HX3 := Lib.hid (HX2.out.below hb3)
  clear hb3 HX2
  by_cases hfew : n ≤ 300
  rotate_left
  · have hd := decide_eq_false hfew
    go_wp2_with (go_at_call 11; refine (few_any A n c _).mono ?_; rintro e w' ⟨rfl, rfl⟩; rw [hd])
    go_ret
    exact ⟨rfl, HX3.out.b⟩
  have hd := decide_eq_true hfew
  have HSL : Hid (Small l) := Lib.hid ⟨by rw [hln.out]; exact hfew, HSM.out⟩
  have HBT := Lib.hid (batch_any A n c l w3 (HL.out.below HX3.out.b) (by omega))
  go_wp2_with (first
    | (go_at_call 11; refine (few_any A n c _).mono ?_; rintro e w' ⟨rfl, rfl⟩; rw [hd])
    | (go_at_call 14; refine HBT.out.mono ?_; rintro e4 w4 ⟨A5, n5, c5, rfl, ho4, hb4⟩; have HR4 := Lib.hid ho4; have HB4 := Lib.hid hb4; clear ho4 hb4))
  have HX4 := Lib.hid (HX3.out.below HB4.out)
  have HCM := Lib.hid (Commit_new_disk HX4.out (by omega) l HSL.out A5 n5 c5 (own_hc HR4.out).1)
  refine HCM.out.mono ?_
  rintro e5 w5 (⟨rfl, x, a', en', cn', hx5, hi5, hP5, ho5, hn5⟩ | ⟨rfl, hx5, _, hf5, _⟩)
  rotate_left
  · have HX5 := Lib.hid hx5
    have hbig : 100000 < (batB l).length := by
      have h4 : hlf 4000 = 1999 := by decide
      unfold fitsB at hf5
      rw [h4] at hf5
      omega
    have HBY := Lib.hid (Bytes_any A n c l w5 (HL.out.below HX5.out.b) HSL.out)
    clear hx5 hf5
    generalize batB l = bb at *
    go_wp2_with (go_at_call 19; refine HBY.out.mono ?_; rintro e6 w6 ⟨A6, n6, c6, rfl, ho6, hb6⟩; have hn6 : 100000 < n6 := (by have := (Hold.of_own ho6).1; omega); have HX6 := Lib.hid (HX5.out.below hb6); clear ho6 hb6)
    go_ret
    exact ⟨by simp; omega, HX6.out.b⟩
  have HX5 := Lib.hid hx5
  have HP := Lib.hid hP5
  have HASC := Lib.hid hi5.asc
  have hP300 : x.P.length ≤ 300 := by rw [hP5]; exact HSL.out.all.n
  have HLV : Hid (Live x.P) := Lib.hid (by rw [hP5]; exact allC_live l [] (fun c hc => by cases hc) List.Pairwise.nil)
  clear hx5 hi5 hP5 ho5 hn5 HCM HX4 HR4 HB4 HBT HX3
  have hA40 : ∀ m, l.length = m → (0 + m + 1) * 40 ≤ 140737488355328 := by intro m hm; have := HSL.out.n; omega
  have HLE := Lib.hid (lastV_eq key.data.toList x.P HASC.out)
  have HUF := Lib.hid (und_filter pfx.data.toList x.P HASC.out)
  go_wp2_with (first
    | (go_at_call 15; refine (All_any none A 0 0 _ c [] l w5 (HC.nil _ _ (.inl rfl)) (HL.out.below HX5.out.b) (hA40 _ hln.out)).mono ?_; rintro e6 w6 ⟨A9, n9, c9, rfl, hh6, _, hb6⟩; have HH6 := Lib.hid hh6; have HX6 := Lib.hid (HX5.out.below hb6); clear hh6 hb6)
    | (go_at_call 20; refine (Get_any w w6 sb cb g x HX6.out HASC.out (by omega) key).mono ?_; rintro e7 w7 ⟨rfl, hb7⟩; have HH7 := Lib.hid (HH6.out.below hb7); have HX7 := Lib.hid (HX6.out.below hb7); clear hb7))
  rw [← HP.out] at HH7
  obtain rfl : n9 = x.P.length := HH7.out.1.symm
  clear HX5 HX6 HH6
  rw [← HLE.out]
  go_loop [12, 13, 14] (fun v12 v13 v14 => ∃ (i : Nat) (q : ByteArray × Bool), v14 = .int .i64 (i : Int) ∧ i ≤ x.P.length ∧ v12 = .string q.1 ∧ v13 = .bool q.2 ∧ Hid (lastV (x.P.take i) key.data.toList = q)) (fun _ _ v14 => x.P.length - (intOf v14).toNat)
  case atStart => exact ⟨0, (⟨#[]⟩, false), rfl, Nat.zero_le _, rfl, rfl, Lib.hid rfl⟩
  case round =>
    obtain ⟨i, q, rfl, hin, rfl, rfl, HQ⟩ := hrel
    obtain ⟨qv, qh⟩ := q
    by_cases hi : i < x.P.length
    · have hltz : (i : Int) < (x.P.length : Int) := by omega
      have HSN := Lib.hid (lastV_snoc x.P key.data.toList i hi)
      obtain ⟨b2, o2, rfl, hbl, f0, f1, f2⟩ := HH7.out.elem i hi
      generalize x.P[i] = y at *
      obtain ⟨yk, yv, yg⟩ := y
      simp only at f0 f1 f2
      by_cases hk : yk = key
      · subst hk
        go_wp2
        go_round
        case rel => exact ⟨i + 1, (yv, true), by go_num, by omega, rfl, rfl, Lib.hid (by rw [HSN.out]; exact if_pos rfl)⟩
        case measure => simp [intOf]; omega
      · have hk2 : (yk.toList == key.toList) = false := by
          rw [beq_eq_false_iff_ne]
          exact fun h => hk (bytes_same h)
        have hk3 : ¬ ky ⟨yk, yv, yg⟩ = key.data.toList := fun h => hk (bytes_same (by rw [ByteArray.toList_eq, ByteArray.toList_eq]; exact h))
        have HK3 := Lib.hid hk3
        clear hk3
        go_wp2
        go_round
        case rel => exact ⟨i + 1, (qv, qh), by go_num, by omega, rfl, rfl, Lib.hid (by rw [HSN.out]; unfold stepV; rw [if_neg HK3.out]; exact HQ.out)⟩
        case measure => simp [intOf]; omega
    · obtain rfl : i = x.P.length := by omega
      have hqe : lastV x.P key.data.toList = (qv, qh) := by have := HQ.out; rwa [List.take_length] at this
      have HUN := Lib.hid (Under_any w w7 sb cb g x HX7.out HASC.out (by omega) pfx)
      rw [hqe]
      clear hqe HQ
      go_wp2_with (go_at_call 21; refine HUN.out.mono ?_; rintro e8 w8 ⟨A8, n8, c8, rfl, ho8, hb8⟩; have HU8 := Lib.hid (own_hc ho8).1; have HX8 := Lib.hid (HX7.out.below hb8); have HH8 := Lib.hid (HH7.out.below hb8); clear ho8 hb8 HUN)
      rw [HUF.out] at HU8
      refine (RefUnder_any A9 _ c9 x.P pfx w8 HH8.out (by omega)).mono ?_
      rintro e9 w9 ⟨A10, n10, c10, rfl, ho9, hb9⟩
      have HV9 := Lib.hid (own_hcG ho9).1
      have HU9 := Lib.hid (HU8.out.below hb9)
      have HX9 := Lib.hid (HX8.out.below hb9)
      have HFL : Hid (x.P.filter (begB pfx) = x.P.filter fun c => preB pfx.data.toList (ky c)) := Lib.hid rfl
      rw [HFL.out] at HV9
      have HLF : Hid (Live (x.P.filter fun c => preB pfx.data.toList (ky c))) := Lib.hid (fun c hc => HLV.out c (List.mem_filter.1 hc).1)
      have hfl : (x.P.filter fun c => preB pfx.data.toList (ky c)).length ≤ 300 := Nat.le_trans (List.length_filter_le _ _) hP300
      clear ho9 hb9 HU8 HX8 HH8 HX7 HH7 HFL HUF HLE
      generalize (x.P.filter fun c => preB pfx.data.toList (ky c)) = F at *
      obtain rfl : n8 = F.length := HU9.out.1.symm
      obtain rfl : n10 = F.length := HV9.out.1.symm
      go_wp2_with (go_at_call 23; refine (Count_any w w9 sb cb g x HX9.out).mono ?_; rintro e w' ⟨rfl, rfl⟩)
      go_loopg [17] F.length (fun kx v17 wr => ∃ j : Nat, v17 = .int .i64 (j : Int) ∧ j ≤ F.length ∧ F.length - j ≤ kx ∧ Hid (HC wr A8 F.length c8 F) ∧ Hid (HC wr A10 F.length c10 F) ∧ Hid (Below w.heap.size w wr))
      case atStart => exact ⟨0, rfl, Nat.zero_le _, by omega, HU9, HV9, Lib.hid HX9.out.b⟩
      case round =>
        obtain ⟨j, rfl, hjn, hkx, HUj, HVj, HBj⟩ := hrel
        by_cases hj : j < F.length
        · have hltz : (j : Int) < (F.length : Int) := by omega
          obtain ⟨b1, o1, rfl, hbl1, c0, c1, c2⟩ := HUj.out.elem j hj
          obtain ⟨b2, o2, rfl, hbl2, f0, f1, f2⟩ := HVj.out.elem j hj
          have hgn := HLF.out _ (List.getElem_mem hj)
          generalize F[j] = y at *
          obtain ⟨xk, xv, xg⟩ := y
          simp only at c0 c1 c2 f0 f1 f2 hgn
          subst hgn
          have HU2 := Lib.hid (HUj.out.below (Below.refl wr.heap.size wr).drew)
          have HV2 := Lib.hid (HVj.out.below (Below.refl wr.heap.size wr).drew)
          have HB2 := Lib.hid HBj.out.drew
          go_wp2_with fail
          have c0' : wr.drew.cell? ⟨b1, o1 + j * 3, none⟩ = some (.string xk) := c0
          have c1' : wr.drew.cell? ⟨b1, o1 + j * 3 + 1, none⟩ = some (.string xv) := c1
          have c2' : wr.drew.cell? ⟨b1, o1 + j * 3 + 2, none⟩ = some (.bool false) := c2
          have f0' : wr.drew.cell? ⟨b2, o2 + j * 3, none⟩ = some (.string xk) := f0
          have f1' : wr.drew.cell? ⟨b2, o2 + j * 3 + 1, none⟩ = some (.string xv) := f1
          clear c0 c1 c2 f0 f1 f2
          refine wp_region_steps (fnF b1 o1 F.length c8 b2 o2 c10 j xk xv) (fun w w' => w' = w) (by kernel_rfl) (by kernel_rfl) (fun _ => rfl) (fun _ _ _ h k => k.trans h) fnF_mono ?_ ?_
          · refine ⟨?_, ?_, ?_, ?_, ?_, ?_, ?_, ?_, ?_, ?_, ?_, ?_, ?_, ?_, ?_, ?_, ?_, ?_, ?_, ?_, ?_, ?_, ?_, ?_, ?_, ?_, ?_, ?_, ?_, ?_, ?_, trivial⟩
            · intro a W hR hoff hd
              left
              refine ⟨rfl, ?_⟩
              have e0 : a.tmps.getD 15 undef = .slice (some ⟨b1, o1, none⟩) F.length c8 := hoff.slot 15 (no_dst (by kernel_rfl))
              subst hR
              go_simp
              exact ⟨_, rfl, rfl, rfl⟩
            · intro a W hR hoff hd
              left
              refine ⟨rfl, ?_⟩
              have e0 : a.tmps.getD 17 undef = .int .i64 (j : Int) := hoff.slot 17 (no_dst (by kernel_rfl))
              subst hR
              go_simp
              exact ⟨_, rfl, rfl, rfl⟩
            · intro a W hR hoff hd
              left
              refine ⟨rfl, ?_⟩
              have e0 : a.tmps.getD 105 undef = .slice (some ⟨b1, o1, none⟩) F.length c8 := hd 0 _ rfl rfl
              have e1 : a.tmps.getD 106 undef = .int .i64 (j : Int) := hd 1 _ rfl rfl
              subst hR
              go_simp
              exact ⟨_, rfl, rfl, rfl⟩
            · intro a W hR hoff hd
              left
              refine ⟨rfl, ?_⟩
              have e0 : a.tmps.getD 107 undef = .pointer (some ⟨b1, o1 + j * 3, none⟩) := hd 2 _ rfl rfl
              subst hR
              go_simp
              exact ⟨_, rfl, rfl, rfl⟩
            · intro a W hR hoff hd
              left
              refine ⟨rfl, ?_⟩
              have e0 : a.tmps.getD 108 undef = .pointer (some ⟨b1, o1 + j * 3, none⟩) := hd 3 _ rfl rfl
              subst hR
              go_simp
              exact ⟨_, rfl, rfl, rfl⟩
            · intro a W hR hoff hd
              left
              refine ⟨rfl, ?_⟩
              have e0 : a.tmps.getD 16 undef = .slice (some ⟨b2, o2, none⟩) F.length c10 := hoff.slot 16 (no_dst (by kernel_rfl))
              subst hR
              go_simp
              exact ⟨_, rfl, rfl, rfl⟩
            · intro a W hR hoff hd
              left
              refine ⟨rfl, ?_⟩
              have e0 : a.tmps.getD 17 undef = .int .i64 (j : Int) := hoff.slot 17 (no_dst (by kernel_rfl))
              subst hR
              go_simp
              exact ⟨_, rfl, rfl, rfl⟩
            · intro a W hR hoff hd
              left
              refine ⟨rfl, ?_⟩
              have e0 : a.tmps.getD 110 undef = .slice (some ⟨b2, o2, none⟩) F.length c10 := hd 5 _ rfl rfl
              have e1 : a.tmps.getD 111 undef = .int .i64 (j : Int) := hd 6 _ rfl rfl
              subst hR
              go_simp
              exact ⟨_, rfl, rfl, rfl⟩
            · intro a W hR hoff hd
              left
              refine ⟨rfl, ?_⟩
              have e0 : a.tmps.getD 112 undef = .pointer (some ⟨b2, o2 + j * 3, none⟩) := hd 7 _ rfl rfl
              subst hR
              go_simp
              exact ⟨_, rfl, rfl, rfl⟩
            · intro a W hR hoff hd
              left
              refine ⟨rfl, ?_⟩
              have e0 : a.tmps.getD 113 undef = .pointer (some ⟨b2, o2 + j * 3, none⟩) := hd 8 _ rfl rfl
              subst hR
              go_simp
              exact ⟨_, rfl, rfl, rfl⟩
            · intro a W hR hoff hd
              left
              refine ⟨rfl, ?_⟩
              have e0 : a.tmps.getD 109 undef = .string xk := hd 4 _ rfl rfl
              have e1 : a.tmps.getD 114 undef = .string xk := hd 9 _ rfl rfl
              subst hR
              go_simp
              exact ⟨_, rfl, rfl, rfl⟩
            · intro a W hR hoff hd
              left
              refine ⟨rfl, ?_⟩
              have e0 : a.tmps.getD 115 undef = .bool false := hd 10 _ rfl rfl
              subst hR
              go_simp
              exact ⟨_, rfl, rfl, rfl⟩
            · intro a W hR hoff hd
              left
              have eg : a.tmps.getD 116 undef = .bool false := hd 11 _ rfl rfl
              refine ⟨wanted_of (ops := _) (j := 11) (b := false) rfl rfl rfl eg, ?_⟩
              clear eg
              have e0 : a.tmps.getD 15 undef = .slice (some ⟨b1, o1, none⟩) F.length c8 := hoff.slot 15 (no_dst (by kernel_rfl))
              subst hR
              go_simp
              exact ⟨_, rfl, rfl, rfl⟩
            · intro a W hR hoff hd
              left
              have eg : a.tmps.getD 116 undef = .bool false := hd 11 _ rfl rfl
              refine ⟨wanted_of (ops := _) (j := 11) (b := false) rfl rfl rfl eg, ?_⟩
              clear eg
              have e0 : a.tmps.getD 17 undef = .int .i64 (j : Int) := hoff.slot 17 (no_dst (by kernel_rfl))
              subst hR
              go_simp
              exact ⟨_, rfl, rfl, rfl⟩
            · intro a W hR hoff hd
              left
              have eg : a.tmps.getD 116 undef = .bool false := hd 11 _ rfl rfl
              refine ⟨wanted_of (ops := _) (j := 11) (b := false) rfl rfl rfl eg, ?_⟩
              clear eg
              have e0 : a.tmps.getD 117 undef = .slice (some ⟨b1, o1, none⟩) F.length c8 := hd 12 _ rfl rfl
              have e1 : a.tmps.getD 118 undef = .int .i64 (j : Int) := hd 13 _ rfl rfl
              subst hR
              go_simp
              exact ⟨_, rfl, rfl, rfl⟩
            · intro a W hR hoff hd
              left
              have eg : a.tmps.getD 116 undef = .bool false := hd 11 _ rfl rfl
              refine ⟨wanted_of (ops := _) (j := 11) (b := false) rfl rfl rfl eg, ?_⟩
              clear eg
              have e0 : a.tmps.getD 119 undef = .pointer (some ⟨b1, o1 + j * 3, none⟩) := hd 14 _ rfl rfl
              subst hR
              go_simp
              exact ⟨_, rfl, rfl, rfl⟩
            · intro a W hR hoff hd
              left
              have eg : a.tmps.getD 116 undef = .bool false := hd 11 _ rfl rfl
              refine ⟨wanted_of (ops := _) (j := 11) (b := false) rfl rfl rfl eg, ?_⟩
              clear eg
              have e0 : a.tmps.getD 120 undef = .pointer (some ⟨b1, o1 + j * 3 + 1, none⟩) := hd 15 _ rfl rfl
              subst hR
              go_simp
              exact ⟨_, rfl, rfl, rfl⟩
            · intro a W hR hoff hd
              left
              have eg : a.tmps.getD 116 undef = .bool false := hd 11 _ rfl rfl
              refine ⟨wanted_of (ops := _) (j := 11) (b := false) rfl rfl rfl eg, ?_⟩
              clear eg
              have e0 : a.tmps.getD 16 undef = .slice (some ⟨b2, o2, none⟩) F.length c10 := hoff.slot 16 (no_dst (by kernel_rfl))
              subst hR
              go_simp
              exact ⟨_, rfl, rfl, rfl⟩
            · intro a W hR hoff hd
              left
              have eg : a.tmps.getD 116 undef = .bool false := hd 11 _ rfl rfl
              refine ⟨wanted_of (ops := _) (j := 11) (b := false) rfl rfl rfl eg, ?_⟩
              clear eg
              have e0 : a.tmps.getD 17 undef = .int .i64 (j : Int) := hoff.slot 17 (no_dst (by kernel_rfl))
              subst hR
              go_simp
              exact ⟨_, rfl, rfl, rfl⟩
            · intro a W hR hoff hd
              left
              have eg : a.tmps.getD 116 undef = .bool false := hd 11 _ rfl rfl
              refine ⟨wanted_of (ops := _) (j := 11) (b := false) rfl rfl rfl eg, ?_⟩
              clear eg
              have e0 : a.tmps.getD 122 undef = .slice (some ⟨b2, o2, none⟩) F.length c10 := hd 17 _ rfl rfl
              have e1 : a.tmps.getD 123 undef = .int .i64 (j : Int) := hd 18 _ rfl rfl
              subst hR
              go_simp
              exact ⟨_, rfl, rfl, rfl⟩
            · intro a W hR hoff hd
              left
              have eg : a.tmps.getD 116 undef = .bool false := hd 11 _ rfl rfl
              refine ⟨wanted_of (ops := _) (j := 11) (b := false) rfl rfl rfl eg, ?_⟩
              clear eg
              have e0 : a.tmps.getD 124 undef = .pointer (some ⟨b2, o2 + j * 3, none⟩) := hd 19 _ rfl rfl
              subst hR
              go_simp
              exact ⟨_, rfl, rfl, rfl⟩
            · intro a W hR hoff hd
              left
              have eg : a.tmps.getD 116 undef = .bool false := hd 11 _ rfl rfl
              refine ⟨wanted_of (ops := _) (j := 11) (b := false) rfl rfl rfl eg, ?_⟩
              clear eg
              have e0 : a.tmps.getD 125 undef = .pointer (some ⟨b2, o2 + j * 3 + 1, none⟩) := hd 20 _ rfl rfl
              subst hR
              go_simp
              exact ⟨_, rfl, rfl, rfl⟩
            · intro a W hR hoff hd
              left
              have eg : a.tmps.getD 116 undef = .bool false := hd 11 _ rfl rfl
              refine ⟨wanted_of (ops := _) (j := 11) (b := false) rfl rfl rfl eg, ?_⟩
              clear eg
              have e0 : a.tmps.getD 121 undef = .string xv := hd 16 _ rfl rfl
              have e1 : a.tmps.getD 126 undef = .string xv := hd 21 _ rfl rfl
              subst hR
              go_simp
              exact ⟨_, rfl, rfl, rfl⟩
            · intro a W hR hoff hd
              left
              refine ⟨rfl, ?_⟩
              have e0 : a.tmps.getD 116 undef = .bool false := hd 11 _ rfl rfl
              have e1 : a.tmps.getD 127 undef = .bool false := hd 22 _ rfl rfl
              subst hR
              go_simp
              exact ⟨_, rfl, rfl, rfl⟩
            · intro a W hR hoff hd
              left
              refine ⟨rfl, ?_⟩
              have e0 : a.tmps.getD 128 undef = .bool false := hd 23 _ rfl rfl
              subst hR
              go_simp
              exact ⟨_, rfl, rfl, rfl⟩
            · intro a W hR hoff hd
              left
              have eg : a.tmps.getD 129 undef = .bool false := hd 24 _ rfl rfl
              refine ⟨wanted_of (ops := _) (j := 24) (b := false) rfl rfl rfl eg, ?_⟩
              clear eg
              have e0 : a.tmps.getD 15 undef = .slice (some ⟨b1, o1, none⟩) F.length c8 := hoff.slot 15 (no_dst (by kernel_rfl))
              subst hR
              go_simp
              exact ⟨_, rfl, rfl, rfl⟩
            · intro a W hR hoff hd
              left
              have eg : a.tmps.getD 129 undef = .bool false := hd 24 _ rfl rfl
              refine ⟨wanted_of (ops := _) (j := 24) (b := false) rfl rfl rfl eg, ?_⟩
              clear eg
              have e0 : a.tmps.getD 17 undef = .int .i64 (j : Int) := hoff.slot 17 (no_dst (by kernel_rfl))
              subst hR
              go_simp
              exact ⟨_, rfl, rfl, rfl⟩
            · intro a W hR hoff hd
              left
              have eg : a.tmps.getD 129 undef = .bool false := hd 24 _ rfl rfl
              refine ⟨wanted_of (ops := _) (j := 24) (b := false) rfl rfl rfl eg, ?_⟩
              clear eg
              have e0 : a.tmps.getD 130 undef = .slice (some ⟨b1, o1, none⟩) F.length c8 := hd 25 _ rfl rfl
              have e1 : a.tmps.getD 131 undef = .int .i64 (j : Int) := hd 26 _ rfl rfl
              subst hR
              go_simp
              exact ⟨_, rfl, rfl, rfl⟩
            · intro a W hR hoff hd
              left
              have eg : a.tmps.getD 129 undef = .bool false := hd 24 _ rfl rfl
              refine ⟨wanted_of (ops := _) (j := 24) (b := false) rfl rfl rfl eg, ?_⟩
              clear eg
              have e0 : a.tmps.getD 132 undef = .pointer (some ⟨b1, o1 + j * 3, none⟩) := hd 27 _ rfl rfl
              subst hR
              go_simp
              exact ⟨_, rfl, rfl, rfl⟩
            · intro a W hR hoff hd
              left
              have eg : a.tmps.getD 129 undef = .bool false := hd 24 _ rfl rfl
              refine ⟨wanted_of (ops := _) (j := 24) (b := false) rfl rfl rfl eg, ?_⟩
              clear eg
              have e0 : a.tmps.getD 133 undef = .pointer (some ⟨b1, o1 + j * 3 + 2, none⟩) := hd 28 _ rfl rfl
              subst hR
              go_simp
              exact ⟨_, rfl, rfl, rfl⟩
            · intro a W hR hoff hd
              left
              refine ⟨rfl, ?_⟩
              have e0 : a.tmps.getD 129 undef = .bool false := hd 24 _ rfl rfl
              have e1 : a.tmps.getD 134 undef = .bool false := hd 29 _ rfl rfl
              subst hR
              go_simp
              exact ⟨_, rfl, rfl, rfl⟩
          · intro a W hR hoff hd
            rename_i hK
            have e135 : a.tmps.getD 135 undef = .bool false := hd 30 _ rfl
            subst hR
            obtain ⟨ys, hys, ha⟩ := off_form hoff (mask := [false, false, false, false, false, false, false, false, false, false, false, false, false, false, false, false, false, false, false, false, false, false, false, false, false, false, false, false, false, false, false, false, false, false, false, false, false, false, false, false, false, false, false, false, false, false, false, false, false, false, false, false, false, false, false, false, false, false, false, false, false, false, false, false, false, false, false, false, false, false, false, false, false, false, false, false, false, false, false, false, false, false, false, false, false, false, false, false, false, false, false, false, false, false, false, false, false, false, false, false, false, false, false, false, false, true, true, true, true, true, true, true, true, true, true, true, true, true, true, true, true, true, true, true, true, true, true, true, true, true, true, true, true, true, true, true]) (by kernel_rfl)
            rw [hys] at e135
            clear hd hoff hys
            subst ha
            simp only [fillFrom, e135, Nat.zero_add, Nat.reduceAdd]
            refine hK _ _ ?_
            go_wp2_with fail
            go_roundg (F.length - (j + 1))
            case measure => omega
            case rel => exact ⟨j + 1, by go_num, by omega, Nat.le_refl _, HU2, HV2, HB2⟩
        · obtain rfl : j = F.length := by omega
          go_wp2_with fail
          go_ret
          exact ⟨rfl, HBj.out⟩
end Go.Proofs.Ytbfhlleipeipbaa
