/-
  What is proved: the texts Ka, Kb, Kp, Fa, Jq, Jh, Rp, Ff, Fu in one: what each proves stands ahead of it. Conditions: those in each statement.
-/
import Derived.Test.YtbfhlleipeipbaaM7
import Derived.Test.YtbfhlleipeipbaaOpen
import Derived.Deep.SlicePairs
import Derived.Test.YtbfhlleipeipbaaJl
/- What is proved: what a batch of at most 300 changes of at most 1048576 bytes each asks for; what a store keeps where a row of another's is changed. Conditions: those in each statement. -/
namespace Go.Proofs.Ytbfhlleipeipbaa
open Go.RowKit Go.Lib Go.Sort

theorem mem_allC : ∀ (b l : List Cg), Asc l → ∀ z ∈ allC l b, z ∈ l ∨ ∃ c ∈ b, z = bare c
  | [], l, _, z, hz => .inl hz
  | c :: b, l, hl, z, hz => by
    obtain ⟨h1, h2, _⟩ := doGo_spec (bare c) l c.gone hl
    have hz' : z ∈ allC (doC l c) b := hz
    rcases mem_allC b (doC l c) h1 z hz' with h | ⟨d, hd, e⟩
    · rcases h2 z h with ⟨_, e⟩ | h
      · exact .inr ⟨c, List.mem_cons_self .., e⟩
      · exact .inl h
    · exact .inr ⟨d, List.mem_cons_of_mem _ hd, e⟩
theorem allC_len : ∀ (b l : List Cg), (allC l b).length ≤ l.length + b.length
  | [], l => by simp [allC]
  | c :: b, l => by
    have h1 := allC_len b (doC l c)
    have h2 := doC_len l c
    have e : allC l (c :: b) = allC (doC l c) b := rfl
    rw [e, List.length_cons]
    omega
theorem chB_top (c : Cg) : (chB c).length ≤ 17 + (c.key.size + c.val.size) := by
  unfold chB txB
  have e1 : (ky c).length = c.key.size := size_toList _
  have e2 : (vl c).length = c.val.size := size_toList _
  split
  · simp only [List.length_append, dig_length, e1]
    simp
    omega
  · simp only [List.length_append, dig_length, e1, e2]
    simp
    omega
theorem chsB_top (M : Nat) : ∀ l : List Cg, (∀ y ∈ l, y.key.size + y.val.size ≤ M) → (chsB l).length ≤ l.length * (17 + M)
  | [], _ => by simp [chsB]
  | c :: l, h => by
    have h1 := chsB_top M l (fun y hy => h y (List.mem_cons_of_mem _ hy))
    have h2 := chB_top c
    have h3 := h c (List.mem_cons_self ..)
    rw [chsB_cons, List.length_append, List.length_cons, Nat.succ_mul]
    omega
/-- what the laws' batches are -/
structure Small (l : List Cg) : Prop where
  n : l.length ≤ 300
  s : ∀ y ∈ l, y.key.size + y.val.size ≤ 1048576
theorem Small.all {l : List Cg} (h : Small l) : Small (allC [] l) :=
  ⟨Nat.le_trans (allC_len l []) (by simpa using h.n), fun y hy => by
    rcases mem_allC l [] List.Pairwise.nil y hy with h1 | ⟨c, hc, rfl⟩
    · cases h1
    · exact h.s c hc⟩
theorem Small.len {l : List Cg} (h : Small l) : (chsB l).length ≤ 314577900 := by
  have h1 := chsB_top 1048576 l h.s
  have h2 := h.n
  have : l.length * (17 + 1048576) ≤ 300 * (17 + 1048576) := Nat.mul_le_mul_right _ h2
  omega
theorem Small.sized {l : List Cg} (h : Small l) : Sized [] l :=
  ⟨by rw [batB_length]; have := h.len; omega, fun y hy => Nat.le_trans (h.s y hy) (by omega), by have := h.n; simp only [List.length_nil]; omega, by have := h.all.len; omega, fun y hy => Nat.le_trans (h.all.s y hy) (by omega)⟩
/-- what Commit does to a store on a new disk, where there is room, and where there is none -/
theorem Commit_new_disk {w0 w : World} {sb cb g N : Nat} (hx : SMem w0 w sb cb g (newX N)) (hN : 4 ≤ N) (l : List Cg) (hs : Small l) (A : Option Addr) (n c : Nat) (hl : HC w A n c l) :
    Calls Try.prog 13 #[.pointer (some ⟨sb, 0, none⟩), .slice A n c] w fun e w' =>
      (e = .returned (.int .i64 0) ∧ ∃ x' a' en' cn', SMem w0 w' sb cb g x' ∧ Inv N 1 x' a' en' cn' ∧ x'.P = allC [] l ∧ OthersS w w' ∧ ∃ A n c, w'.cell? ⟨sb, 17, none⟩ = some (.slice A n c) ∧ w'.ownsRow w.heap.size 52 3 (.slice A n c) n (chV x'.P)) ∨
      (e = .returned (.int .i64 51) ∧ SMem w0 w' sb cb g (newX N) ∧ OthersS w w' ∧ ¬ fitsB N 0 (batB l).length ∧ ¬ fitsB N 0 (batB (allC [] l)).length) := by
  have hi := newX_inv (N := N) hN
  have ok := hi.cmOk hN (l := l) hs.sized
  have h := Commit_new w0 w sb cb g (newX N) 0 0 0 l hx ok rfl A n c hl
  by_cases hf : fitsB N 0 (batB l).length ∨ fitsB N 0 (batB (allC [] l)).length
  · obtain ⟨e0, hP, a', en', cn', hi'⟩ := hi.commit hN (by omega) l hf
    refine h.mono ?_
    rintro e w' ⟨rfl, hm, ho, hn⟩
    exact .inl ⟨by rw [e0], _, a', en', cn', hm, hi', hP, ho, hn e0⟩
  · obtain ⟨e0, hX⟩ := hi.refused l (fun h => hf (.inl h)) (fun h => hf (.inr h))
    refine h.mono ?_
    rintro e w' ⟨rfl, hm, ho, _⟩
    exact .inr ⟨by rw [e0], by rw [hX] at hm; exact hm, ho, fun h => hf (.inl h), fun h => hf (.inr h)⟩
/-- the pairs lie elsewhere than that row -/
def Apart (W : World) (sb : Nat) (v : Value) : Prop := ∃ A n c, W.cell? ⟨sb, 17, none⟩ = some (.slice A n c) ∧ ∀ q, v.ownBlock = some q → (Value.slice A n c).ownBlock ≠ some q
theorem SMem.chg52 {w0 W W' : World} {sb cb g q : Nat} {x : SS} {C : Array Value} {fr : Nat × Nat} (h : SMem w0 W sb cb g x) (hx : W.heap[q]? = some (.cells C 52 fr)) (hc : Chg (fun b => b = q) W W') (h0 : w0.heap.size ≤ q) {v : Value} (hv : v.ownBlock = some q) (ha : Apart W sb v) : SMem w0 W' sb cb g x ∧ Apart W' sb v := by
  have k : ∀ (b : Nat) (C' : Array Value) (t' : TypeId) (fr' : Nat × Nat), W.heap[b]? = some (.cells C' t' fr') → t' ≠ 52 → W'.heap[b]? = some (.cells C' t' fr') := fun b C' t' fr' hb' hne => (hc.block b (Array.getElem?_eq_some_iff.1 hb').1 (tag_ne hb' hx hne)).trans hb'
  obtain ⟨A, n, c, hs, hp⟩ := h.ex
  obtain ⟨A2, n2, c2, h17, hne⟩ := ha
  have e17 := hs.cells.2.2.2.1.1
  rw [h17] at e17
  have e := Option.some.inj e17
  rw [← e] at hs hp
  have hs' := k sb _ 82 (0, 0) hs (by decide)
  refine ⟨⟨h.m.frame hc (fun b hb => by subst hb; exact h0) (fun b hb => by subst hb; exact ⟨_, _, _, hx, by decide, by decide, by decide⟩), k cb _ 101 (0, 0) h.cl (by decide), ⟨A2, n2, c2, hs', ?_⟩, h.lo⟩, ⟨A2, n2, c2, (StB.cells hs').2.2.2.1.1, hne⟩⟩
  have en : n2 = n := by injection e
  subst en
  refine ⟨hp.1, ?_⟩
  rcases hp.2 with e | ⟨q', cap, cur, hv', hb', hg, r⟩
  · exact .inl e
  · refine .inr ⟨q', cap, cur, hv', hb', ?_, r⟩
    have hq : q' ≠ q := fun e => hne q hv (by rw [hv', e]; rfl)
    exact (hc.block q' (Array.getElem?_eq_some_iff.1 hg).1 hq).trans hg
end Go.Proofs.Ytbfhlleipeipbaa

/- What is proved: what stays of a store, of a row and of pairs told, where another's row is changed. Conditions: those in each statement. -/
namespace Go.Proofs.Ytbfhlleipeipbaa
open Go.RowKit Go.Lib Go.Sort

/-- a store, and a row of changes of the law's own beside it -/
structure Rw (w : World) (B sb cb g : Nat) (x : SS) (v : Value) (n : Nat) (xs : List Value) (W : World) : Prop where
  sm : SMem w W sb cb g x
  row : W.ownsRow B 52 3 v n xs
  ap : Apart W sb v
  lo : w.heap.size ≤ B
theorem Rw.len {w W : World} {B sb cb g n : Nat} {x : SS} {v : Value} {xs : List Value} (h : Rw w B sb cb g x v n xs W) : xs.length = n * 3 := h.row.1
theorem Rw.at {w W : World} {B sb cb g n : Nat} {x : SS} {v : Value} {xs : List Value} (h : Rw w B sb cb g x v n xs W) (hn : 0 < n) : ∃ q cap, v = .slice (some ⟨q, 0, none⟩) n cap := by
  rcases h.row.2 with ⟨_, e⟩ | ⟨q, cap, cur, e, _⟩
  · have := h.len; omega
  · exact ⟨q, cap, e⟩
theorem Rw.cell {w W : World} {B sb cb g n q cap : Nat} {x : SS} {xs : List Value} (h : Rw w B sb cb g x (.slice (some ⟨q, 0, none⟩) n cap) n xs W) {i : Nat} (hi : i < n * 3) : W.cell? ⟨q, i, none⟩ = xs[i]? ∧ W.frozen? ⟨q, i, none⟩ = false :=
  ⟨h.row.cellAt i hi, h.row.frozenAt i⟩
theorem row_block {W : World} {B n q cap : Nat} {xs : List Value} (h : W.ownsRow B 52 3 (.slice (some ⟨q, 0, none⟩) n cap) n xs) : ∃ C, W.heap[q]? = some (.cells C 52 (0, 0)) := by
  rcases h.2 with ⟨e, _⟩ | ⟨q', cap', cur, e, _, hg, _⟩
  · cases e
  · simp at e
    obtain ⟨rfl, rfl⟩ := e
    exact ⟨cur, hg⟩
theorem Rw.set {w W : World} {B sb cb g n q cap : Nat} {x : SS} {xs : List Value} (h : Rw w B sb cb g x (.slice (some ⟨q, 0, none⟩) n cap) n xs W) (i : Nat) (u : Value) :
    Rw w B sb cb g x (.slice (some ⟨q, 0, none⟩) n cap) n (xs.set i u) (W.setCell ⟨q, i, none⟩ u) := by
  obtain ⟨C, hC⟩ := row_block h.row
  have hc : Chg (fun b => b = q) W (W.setCell ⟨q, i, none⟩ u) := (Chg.refl (fun b => b = q) W).setCell (p := ⟨q, i, none⟩) (.inl rfl) _
  have hlt := (h.row.lt q rfl).1
  obtain ⟨h1, h2⟩ := h.sm.chg52 hC hc (Nat.le_trans h.lo hlt) rfl h.ap
  exact ⟨h1, (h.row.stored i u).1, h2, h.lo⟩
theorem Rw.below {w W W' : World} {B sb cb g n : Nat} {x : SS} {v : Value} {xs : List Value} (h : Rw w B sb cb g x v n xs W) (hb : Below W.heap.size W W') : Rw w B sb cb g x v n xs W' := by
  refine ⟨h.sm.below hb, own_belowG h.row hb, ?_, h.lo⟩
  obtain ⟨A, m, c, h1, h2⟩ := h.ap
  exact ⟨A, m, c, cell_later hb h1, h2⟩
/-- pairs told, beside such a row -/
theorem told_set {W : World} {B B' n m q cap i : Nat} {v : Value} {xs ys : List Value} {u : Value} (h : W.ownsRow B 48 3 v m ys) (hr : W.ownsRow B' 52 3 (.slice (some ⟨q, 0, none⟩) n cap) n xs) : (W.setCell ⟨q, i, none⟩ u).ownsRow B 48 3 v m ys := by
  obtain ⟨C, hC⟩ := row_block hr
  refine h.kept (hr.stored i u).2 ?_
  rcases h.2 with ⟨rfl, _⟩ | ⟨g, cap', cur, rfl, _, hg, _⟩
  · exact .inl rfl
  · refine .inr fun e => ?_
    simp [Value.ownBlock] at e
    subst e
    rw [hC] at hg
    simp at hg
/-- a row that was told now lies elsewhere than the pairs -/
theorem Apart.new {w0 w W : World} {B sb cb g n : Nat} {x : SS} {v : Value} {xs : List Value} (hx : SMem w0 w sb cb g x) (hb : Below w.heap.size w W) (hr : W.ownsRow w.heap.size 52 3 v n xs) (hB : B = w.heap.size) (hlo : w0.heap.size ≤ w.heap.size) : Rw w0 B sb cb g x v n xs W := by
  subst hB
  refine ⟨hx.below hb, hr, ?_, hlo⟩
  obtain ⟨A, m, c, hs, hp⟩ := hx.ex
  refine ⟨A, m, c, cell_later hb hs.cells.2.2.2.1.1, fun q hq e => ?_⟩
  have h1 := (hr.lt q hq).1
  have h2 := (hp.lt q e).2
  omega
/-- a row that was there lies elsewhere than pairs that are new -/
theorem Apart.old {w0 w W : World} {B sb cb g n : Nat} {x : SS} {v : Value} {xs : List Value} (hx : SMem w0 W sb cb g x) (hr : W.ownsRow B 52 3 v n xs) (hlt : ∀ q, v.ownBlock = some q → q < w.heap.size) (hn : ∃ A n c, W.cell? ⟨sb, 17, none⟩ = some (.slice A n c) ∧ W.ownsRow w.heap.size 52 3 (.slice A n c) n (chV x.P)) (hlo : w0.heap.size ≤ B) : Rw w0 B sb cb g x v n xs W := by
  refine ⟨hx, hr, ?_, hlo⟩
  obtain ⟨A, m, c, h1, h2⟩ := hn
  refine ⟨A, m, c, h1, fun q hq e => ?_⟩
  have h3 := hlt q hq
  have h4 := (h2.lt q e).1
  omega
/-- the row is as it was from there on -/
def From (l : List Cg) (j : Nat) (xs : List Value) : Prop := ∀ i, j * 3 ≤ i → xs[i]? = (chV l)[i]?
theorem From.set {l : List Cg} {j i : Nat} {xs : List Value} (h : From l j xs) (hi : i < (j + 1) * 3) (u : Value) : From l (j + 1) (xs.set i u) := by
  intro k hk
  rw [List.getElem?_set_ne (by omega)]
  exact h k (by omega)
theorem From.three {l : List Cg} {j : Nat} {xs : List Value} (h : From l j xs) (hj : j < l.length) : xs[j * 3]? = some (.string l[j].key) ∧ xs[j * 3 + 1]? = some (.string l[j].val) ∧ xs[j * 3 + 2]? = some (.bool l[j].gone) := by
  refine ⟨(h _ (by omega)).trans ?_, (h _ (by omega)).trans ?_, (h _ (by omega)).trans ?_⟩
  · rw [show j * 3 = j * 3 + 0 by omega, chV_get l j 0 hj (by omega)]; rfl
  · rw [chV_get l j 1 hj (by omega)]; rfl
  · rw [chV_get l j 2 hj (by omega)]; rfl
end Go.Proofs.Ytbfhlleipeipbaa

/- What is proved: how a slice of changes that comes in reads, and what the bound on what comes in says of it. Conditions: those in each statement. -/
namespace Go.Proofs.Ytbfhlleipeipbaa
open Go.ChangeShapes Go.WideShapes Go.ChangeAt Go.RowKit Go.Lib Go.Sort

theorem okWide_spot {P : Program} {w : World} {r : Reach} {base : Nat} {t e : TypeId} {A : Option Addr} {n c : Nat} (ht : P.underlying t = some (.slice e)) (h : Value.okWide P w r base t (.slice A n c)) : A = none ∨ ∃ b o, A = some ⟨b, o, none⟩ := by
  cases A with
  | none => exact .inl rfl
  | some a =>
    simp only [Value.okWide, ht, Cell.okWide, Cell.ok] at h
    obtain ⟨b, o, s⟩ := a
    obtain rfl : s = none := h.2.2.2.1
    exact .inr ⟨b, o, rfl⟩
theorem three_of {α : Type} (l : List α) (h : l.length = 3) : ∃ a b c, l = [a, b, c] := by
  match l, h with
  | [a, b, c], _ => exact ⟨a, b, c, rfl⟩
theorem bulk_str {H : Type} (s : ByteArray) : Rows.uptoBulk (DataW.lit (H := H) (.string s.data.toList)) = s.size + 1 := bulk_string s
/-- one change, from its three cells -/
theorem open_ch {H : Type} {enc : TypeId × Value → H} {W : World} {n : Nat} {a : Addr} {cs : List Value} {x : DataW H × List MemPlace} (hc : W.cells? 0 a 3 = some cs) (h : DataW.trod enc Try.prog W 0 (fun _ => true) true n 48 cs = some x) :
    ∃ y : Cg, W.cell? a = some (.string y.key) ∧ W.cell? (a.add 1) = some (.string y.val) ∧ W.cell? (a.add 2) = some (.bool y.gone) ∧ y.key.size + y.val.size ≤ Rows.uptoBulk x.1 := by
  obtain ⟨_, hlen, hcell⟩ := World.cells?_some hc
  obtain ⟨xs, k, _, hx', _, hxl, hf⟩ := DataW.trod_struct Try.underlying48 h
  obtain ⟨v0, v1, v2, rfl⟩ := three_of cs hlen
  obtain ⟨y0, y1, y2, rfl⟩ := three_of xs (by simpa using hxl)
  have c9 : Try.prog.cellsOf 9 = 1 := by kernel_rfl
  have c4 : Try.prog.cellsOf 4 = 1 := by kernel_rfl
  have g0 := hf 0 _ rfl
  have g1 := hf 1 _ rfl
  have g2 := hf 2 _ rfl
  obtain ⟨a0, e0, z0, _⟩ := DataW.trod_string Try.underlying9 (x := y0) (by simpa [c9] using g0)
  obtain ⟨a1, e1, z1, _⟩ := DataW.trod_string Try.underlying9 (x := y1) (by simpa [c9] using g1)
  obtain ⟨a2, e2, z2⟩ := DataW.trod_bool Try.underlying4 (x := y2) (by simpa [c4] using g2)
  simp at e0 e1 e2
  subst e0 e1 e2 z0 z1 z2
  have q0 := hcell 0 (by omega)
  have q1 := hcell 1 (by omega)
  have q2 := hcell 2 (by omega)
  refine ⟨⟨a0, a1, a2⟩, by simpa [Addr.add] using q0, by simpa using q1, by simpa using q2, ?_⟩
  rw [hx']
  simp only [List.map_cons, List.map_nil, Rows.uptoBulk, Rows.uptoBulkAll]
  have h0 := bulk_str (H := H) a0
  have h1 := bulk_str (H := H) a1
  simp only [Rows.uptoBulk] at h0 h1
  omega
theorem bulk_each {H : Type} (D : Nat → DataW H) : ∀ (n i : Nat), i < n → Rows.uptoBulk (D i) ≤ Rows.uptoBulkAll ((List.range n).map D) := by
  intro n
  induction n with
  | zero => intro i hi; omega
  | succ n ih =>
    intro i hi
    have app : ∀ (l r : List (DataW H)), Rows.uptoBulkAll (l ++ r) = Rows.uptoBulkAll l + Rows.uptoBulkAll r := by
      intro l r
      induction l with
      | nil => simp [Rows.uptoBulkAll]
      | cons x l ih => simp only [List.cons_append, Rows.uptoBulkAll, ih]; omega
    rw [List.range_succ, List.map_append, app]
    simp only [List.map_cons, List.map_nil, Rows.uptoBulkAll]
    by_cases h : i = n
    · subst h; omega
    · have := ih i (by omega); omega
/-- a batch that comes in -/
theorem open_chs {H : Type} {enc : TypeId × Value → H} {W : World} {A : Option Addr} {N C : Nat} {d : DataW H} {p : List MemPlace} (hA : A = none ∨ ∃ b o, A = some ⟨b, o, none⟩) (h : DataW.Trod enc Try.prog W 0 (fun _ => true) true 31 (.slice A N C) d p)
    (hfz : ∀ b off, MemPlace.cell b off ∈ p → W.frozen? ⟨b, off, none⟩ = false) (hbu : Rows.uptoBulk d ≤ 1048576) :
    ∃ l : List Cg, HC W A N C l ∧ (∀ y ∈ l, y.key.size + y.val.size ≤ 1048576) ∧ N + 1 ≤ Rows.uptoBulk d := by
  obtain ⟨fuel, hf⟩ := h
  rcases Deep.open_slice Try.underlying31 hf with ⟨hcs, hx⟩ | ⟨x, n', c', m, n, D, Pl, hcs, _, hl, hm, hz, hx, hcell⟩
  · simp [Value.cells] at hcs
    obtain ⟨rfl, rfl, rfl⟩ := hcs
    have hd : d = .nil := by injection hx
    subst hd
    exact ⟨[], HC.nil _ _ (.inl rfl), by simp, by simp [Rows.uptoBulk]⟩
  · simp [Value.cells] at hcs
    obtain ⟨rfl, rfl, rfl⟩ := hcs
    simp only [if_true] at hz
    subst hz
    obtain ⟨b, off, rfl⟩ : ∃ b o, x = ⟨b, o, none⟩ := by
      rcases hA with e | ⟨b, o, e⟩
      · cases e
      · exact ⟨b, o, Option.some.inj e⟩
    have hd : d = .slice ((List.range N).map D) ((List.range (m - N)).map fun j => D (N + j)) := by injection hx
    have hp : p = MemPlace.row ⟨b, off, none⟩ (m * Try.prog.cellsOf 48) ++ (List.range m).flatMap Pl := by injection hx
    have hbu' := hbu
    rw [hd] at hbu'
    simp only [Rows.uptoBulk] at hbu'
    have ce : Try.prog.cellsOf 48 = 3 := by kernel_rfl
    have each : ∀ i, i < N → ∃ q : Cg, W.cell? ((⟨b, off, none⟩ : Addr).add (i * 3)) = some (.string q.key) ∧ W.cell? (((⟨b, off, none⟩ : Addr).add (i * 3)).add 1) = some (.string q.val) ∧ W.cell? (((⟨b, off, none⟩ : Addr).add (i * 3)).add 2) = some (.bool q.gone) ∧ q.key.size + q.val.size ≤ 1048576 := by
      intro i hi
      obtain ⟨cs', h1, h2⟩ := hcell i (by omega)
      rw [ce] at h1
      have hbi := bulk_each D N i hi
      obtain ⟨y, k0, k1, k2, k3⟩ := open_ch h1 h2
      refine ⟨y, k0, k1, k2, ?_⟩
      have k3' : y.key.size + y.val.size ≤ Rows.uptoBulk (D i) := k3
      omega
    obtain ⟨q, hq⟩ := Deep.choose_lt each
    have hbl := bulk_list ((List.range N).map D)
    refine ⟨(List.range N).map q, ⟨by simp, hl, fun hN => ⟨b, off, rfl, ?_, fun u hu => ?_⟩, .inr ⟨b, off, rfl⟩⟩, ?_, ?_⟩
    · have := (hq 0 hN).1
      exact World.block_lt_of_cell? W _ this
    · have hu' : u < ((List.range N).map q).length * 3 := by simpa using hu
      have hu2 : u < N * 3 := by simpa using hu
      rw [flatK_get3 _ u hu']
      refine ⟨?_, hfz b (off + u) ?_⟩
      · obtain ⟨i, t, ht, rfl⟩ : ∃ i t, t < 3 ∧ u = i * 3 + t := ⟨u / 3, u % 3, Nat.mod_lt _ (by omega), by omega⟩
        have hi : i < N := by omega
        obtain ⟨h0, h1, h2, _⟩ := hq i hi
        simp only [Addr.add_lit] at h0 h1 h2
        have hg := chV_get ((List.range N).map q) i t (by simpa using hi) ht
        have hl3 : i * 3 + t < (chV ((List.range N).map q)).length := by rw [chV_length]; simpa using hu2
        rw [List.getElem?_eq_getElem hl3] at hg
        have hgi : ((List.range N).map q)[i]'(by simpa using hi) = q i := by simp
        rw [hgi] at hg
        rw [← Nat.add_assoc]
        show W.cell? _ = some (id (chV ((List.range N).map q))[i * 3 + t])
        rw [id, hg]
        match t, ht with
        | 0, _ => exact h0
        | 1, _ => exact h1
        | 2, _ => exact h2
      · rw [hp]
        refine List.mem_append_left _ (List.mem_map.2 ⟨u, List.mem_range.2 ?_, rfl⟩)
        rw [ce]
        have : N * 3 ≤ m * 3 := Nat.mul_le_mul_right 3 hl
        omega
    · intro y hy
      obtain ⟨i, hi, rfl⟩ := List.mem_map.1 hy
      exact (hq i (List.mem_range.1 hi)).2.2.2
    · rw [hd]
      simp only [Rows.uptoBulk]
      simp at hbl
      omega
end Go.Proofs.Ytbfhlleipeipbaa

/- What is proved: contracts of the document's Int, Text, Bool and of its bytes of a batch: batB. Conditions: those in each statement. -/
namespace Go.Proofs.Ytbfhlleipeipbaa
open Go.RowKit

set_option maxHeartbeats 400000 in
theorem refInt_any (A : Option Addr) (n c : Nat) (l : List UInt8) (x : Int) (w : World) (h : Hold w A n c l) (hn : n ≤ 140737488355000) :
    Calls Try.prog 58 #[.slice A n c, .int .i64 x] w (NewRow w (l ++ dig x)) := by
  have H := Lib.hid h
  clear h
  go_enter Try.func58, Try.ntmps58
  go_wp2_with (first
    | (at_builtin; refine wpList_append_hold rfl (.tmp 6) (.tmp 7) rfl w.heap.size (.slice none 0 0) 0 [] rfl (World.ownsRow_nil _ _ _ _) A n c l rfl H.out (by omega) (Nat.le_refl _) ?_; intro A1 c1 w1 hown1 hgrow1; simp only [Nat.zero_add, List.nil_append] at hown1; have hb1 : Below w.heap.size w w1 := (Below.refl _ _).grown hgrow1 (Nat.le_refl _) (by simp [Value.ownBlock]))
    | (go_at_call 37; refine (digits_any x w1).mono ?_; rintro e w2 ⟨v2, rfl, hown2, hb2⟩; obtain ⟨A2, c2, hv2⟩ := own_form hown2; rw [hv2] at hown2 ⊢; clear hv2)
    | (at_builtin; refine wpList_append_hold rfl (.tmp 9) (.tmp 11) rfl w.heap.size (.slice A1 n c1) n l rfl (hown1.kept (row := none) ⟨hb2.os, hb2.tape, hb2.output, hb2.size, fun k hk _ => hb2.block k hk⟩ (by cases hv : (Value.slice A1 n c1).ownBlock <;> simp)) A2 8 c2 (dig x) rfl (Hold.of_own hown2) (by omega) (Nat.le_trans hb1.size hb2.size) ?_; intro A3 c3 w3 hown3 hgrow3))
  go_ret
  exact ⟨A3, _, c3, rfl, hown3, (hb1.trans (hb2.mono hb1.size)).grown hgrow3 (Nat.le_trans hb1.size hb2.size) (fun k hk => (hown1.lt k hk).1)⟩

set_option maxHeartbeats 400000 in
theorem refText_any (A : Option Addr) (n c : Nat) (l : List UInt8) (s : ByteArray) (w : World) (h : Hold w A n c l) (hn : n + s.size ≤ 140737488354000) :
    Calls Try.prog 38 #[.slice A n c, .string s] w (NewRow w (l ++ dig s.size ++ s.data.toList)) := by
  obtain ⟨i0, hi, hz0, hz1, hz2⟩ := info_parts Try.info5
  have H := Lib.hid h
  clear h
  go_enter Try.func38, Try.ntmps38
  go_wp2_with (first
    | (go_at_call 58; refine (refInt_any A n c l s.size w H.out (by omega)).mono ?_; rintro e w1 ⟨A1, n1, c1, rfl, hown1, hb1⟩; have hn1 : n1 ≤ n + 8 := (by have h1 := hown1.1; rw [bv_length, List.length_append, dig_length, H.out.len] at h1; omega))
    | (at_builtin; refine Lib.wpList_append_own_string _ rfl (.tmp 8) (.tmp 9) 43 9 rfl w.heap.size 5 i0 Try.underlying43 Try.underlying9 hi hz0 hz1 hz2 (.slice A1 n1 c1) n1 (bv (l ++ dig s.size)) rfl hown1 s rfl (by unfold maxLen; omega) (by omega) hb1.size ?_; intro v2 w2 hown2 hgrow2 _))
  obtain ⟨A2, c2, hv2⟩ := own_form hown2
  rw [bv_str, ← bv_append] at hown2
  rw [hv2] at hown2 ⊢
  go_wp2
  go_ret
  exact ⟨A2, _, c2, rfl, hown2, hb1.grown hgrow2 hb1.size (fun k hk => (hown1.lt k hk).1)⟩

set_option maxHeartbeats 400000 in
theorem refBool_any (A : Option Addr) (n c : Nat) (l : List UInt8) (x : Bool) (w : World) (h : Hold w A n c l) (hn : n ≤ 140737488354000) :
    Calls Try.prog 39 #[.slice A n c, .bool x] w (NewRow w (l ++ [if x then 1 else 0])) := by
  have H := Lib.hid h
  clear h
  cases x
  · go_enter Try.func39, Try.ntmps39
    go_wp2_with (first
      | (at_builtin; refine wpList_append_hold rfl (.tmp 6) (.tmp 7) rfl w.heap.size (.slice none 0 0) 0 [] rfl (World.ownsRow_nil _ _ _ _) A n c l rfl H.out (by omega) (Nat.le_refl _) ?_; intro A1 c1 w1 hown1 hgrow1; simp only [Nat.zero_add, List.nil_append] at hown1; have hb1 : Below w.heap.size w w1 := (Below.refl _ _).grown hgrow1 (Nat.le_refl _) (by simp [Value.ownBlock]))
      | (at_builtin; refine wpList_append_hold rfl (.tmp 13) (.tmp 14) rfl w.heap.size (.slice A1 n c1) n l rfl (hown1.alloc _) (some ⟨w1.heap.size, 0, none⟩) 1 1 [0] rfl (Hold.new w1 [0] 5 (0, 0) _ rfl) (by omega) (by have := hb1.size; simp; omega) ?_; intro A3 c3 w3 hown3 hgrow3))
    go_ret
    exact ⟨A3, _, c3, rfl, hown3, (hb1.alloc hb1.size _).grown hgrow3 (by have := hb1.size; simp; omega) (fun k hk => (hown1.lt k hk).1)⟩
  · go_enter Try.func39, Try.ntmps39
    go_wp2_with (first
      | (at_builtin; refine wpList_append_hold rfl (.tmp 6) (.tmp 7) rfl w.heap.size (.slice none 0 0) 0 [] rfl (World.ownsRow_nil _ _ _ _) A n c l rfl H.out (by omega) (Nat.le_refl _) ?_; intro A1 c1 w1 hown1 hgrow1; simp only [Nat.zero_add, List.nil_append] at hown1; have hb1 : Below w.heap.size w w1 := (Below.refl _ _).grown hgrow1 (Nat.le_refl _) (by simp [Value.ownBlock]))
      | (at_builtin; refine wpList_append_hold rfl (.tmp 10) (.tmp 11) rfl w.heap.size (.slice A1 n c1) n l rfl (hown1.alloc _) (some ⟨w1.heap.size, 0, none⟩) 1 1 [1] rfl (Hold.new w1 [1] 5 (0, 0) _ rfl) (by omega) (by have := hb1.size; simp; omega) ?_; intro A3 c3 w3 hown3 hgrow3))
    go_ret
    exact ⟨A3, _, c3, rfl, hown3, (hb1.alloc hb1.size _).grown hgrow3 (by have := hb1.size; simp; omega) (fun k hk => (hown1.lt k hk).1)⟩
theorem chsB_snoc (l : List Cg) (j : Nat) (h : j < l.length) : chsB (l.take (j + 1)) = chsB (l.take j) ++ chB l[j] := by
  rw [List.take_succ_eq_append_getElem h, chsB_append]
  congr 1
  unfold chsB
  simp
theorem chB_yes (k v : ByteArray) : chB ⟨k, v, true⟩ = (dig k.size ++ k.data.toList) ++ [1] := by
  unfold chB txB ky vl
  simp
theorem chB_no (k v : ByteArray) : chB ⟨k, v, false⟩ = ((dig k.size ++ k.data.toList) ++ [0]) ++ (dig v.size ++ v.data.toList) := by
  unfold chB txB ky vl
  simp
end Go.Proofs.Ytbfhlleipeipbaa

/- What is proved: plain facts on what an Append, whole or cut off, and a crash behind it, leave of a disk's bytes. No condition but those in each statement. -/
namespace Go.Proofs.Ytbfhlleipeipbaa
open Go.RowKit

/-! ### rows that are laid into a row -/
theorem splice_get {α : Type} (X v : List α) (o i : Nat) (h : o + v.length ≤ X.length) : (splice X o v)[i]? = if i < o then X[i]? else if i < o + v.length then v[i - o]? else X[i]? := by
  unfold splice
  by_cases h1 : i < o
  · rw [List.getElem?_append_left (by rw [List.length_take]; omega), List.getElem?_take, if_pos h1, if_pos h1]
  · have e : (X.take o).length = o := by rw [List.length_take]; omega
    rw [if_neg h1, List.getElem?_append_right (by omega), e]
    by_cases h2 : i < o + v.length
    · rw [if_pos h2, List.getElem?_append_left (by omega)]
    · rw [if_neg h2, List.getElem?_append_right (by omega), List.getElem?_drop]
      congr 1
      omega
theorem splice_splice {α : Type} (X v y : List α) (o : Nat) (h : o + v.length + y.length ≤ X.length) : splice (splice X o v) (o + v.length) y = splice X o (v ++ y) := by
  have hl : (splice X o v).length = X.length := length_splice X o v (by omega)
  apply List.ext_getElem?
  intro i
  rw [splice_get _ _ _ _ (by omega), splice_get _ _ _ _ (by omega), splice_get _ _ _ _ (by rw [List.length_append]; omega), List.length_append]
  by_cases h1 : i < o
  · rw [if_pos (by omega), if_pos h1, if_pos h1]
  · by_cases h2 : i < o + v.length
    · rw [if_pos h2, if_neg h1, if_pos h2, if_neg h1, if_pos (by omega), List.getElem?_append_left (by omega)]
    · rw [if_neg h2]
      by_cases h3 : i < o + v.length + y.length
      · rw [if_pos h3, if_neg h1, if_pos (by omega), List.getElem?_append_right (by omega)]
        congr 1
        omega
      · rw [if_neg h3, if_neg h1, if_neg h2, if_neg h1, if_neg (by omega)]
theorem splice_ahead {α : Type} (X v : List α) (o r : Nat) (h : o + v.length ≤ X.length) (hv : ∀ i, i < r → i < v.length → v[i]? = X[o + i]?) : (splice X o v).take (o + r) = X.take (o + r) := by
  apply List.ext_getElem?
  intro i
  rw [List.getElem?_take, List.getElem?_take]
  by_cases h1 : i < o + r
  · rw [if_pos h1, if_pos h1, splice_get _ _ _ _ h]
    by_cases h2 : i < o
    · rw [if_pos h2]
    · rw [if_neg h2]
      by_cases h3 : i < o + v.length
      · rw [if_pos h3, hv (i - o) (by omega) (by omega)]
        congr 1
        omega
      · rw [if_neg h3]
  · rw [if_neg h1, if_neg h1]

/-! ### sectors as one row of bytes -/
def D.flat (s : D) : List UInt8 := (settle s.last s.buf).flatten
theorem D.Ok.sets {s : D} (h : s.Ok) : ∀ l ∈ settle s.last s.buf, l.length = 64 := settle_sec _ _ h.sec fun p hp => (h.wr p hp).2
theorem D.Ok.flat_len {s : D} (h : s.Ok) : s.flat.length = 64 * s.last.length := by
  unfold D.flat
  rw [flat_length 64 _ h.sets, settle_length, Nat.mul_comm]
theorem flat_at {S : List (List UInt8)} (h : ∀ l ∈ S, l.length = 64) {k : Nat} (hk : k < S.length) : S[k]?.getD [] = (S.flatten.drop (64 * k)).take 64 := by
  rw [List.getElem?_eq_getElem hk, Option.getD_some]
  have hl := h _ (List.getElem_mem hk)
  apply List.ext_getElem?
  intro i
  rw [List.getElem?_take]
  by_cases hi : i < 64
  · rw [if_pos hi, List.getElem?_drop, Nat.mul_comm, flat_get 64 S h k i hk hi]
  · rw [if_neg hi, List.getElem?_eq_none (by omega)]
theorem D.Ok.told_flat {s : D} (h : s.Ok) {k : Nat} (hk : k < s.last.length) : s.told k = (s.flat.drop (64 * k)).take 64 := flat_at h.sets (by rw [settle_length]; exact hk)
theorem take_more {α : Type} (X : List α) (o a b : Nat) : (X.drop o).take (a + b) = (X.drop o).take a ++ (X.drop (o + a)).take b := by
  rw [List.take_add, List.drop_drop]
theorem D.Ok.bytes_flat {s : D} (h : s.Ok) (k : Nat) : ∀ N, k + N ≤ s.last.length → s.bytes k N = (s.flat.drop (64 * k)).take (64 * N)
  | 0, _ => by simp [D.bytes]
  | N + 1, hN => by
    rw [D.bytes_succ, h.bytes_flat k N (by omega), h.told_flat (by omega), Nat.mul_succ, take_more]
    congr 3
    omega
theorem D.Ok.area_flat {s : D} (h : s.Ok) {k n : Nat} (hN : k + (n + 63) / 64 ≤ s.last.length) : s.area k n = (s.flat.drop (64 * k)).take n := by
  unfold D.area
  rw [h.bytes_flat k _ hN, List.take_take]
  congr 1
  omega

/-! ### the writes of an Append -/
def wOf (k0 : Nat) (l : List UInt8) (i : Nat) : Nat × List UInt8 := (k0 + i, pad ((l.drop (64 * i)).take 64))
def wsOf (k0 : Nat) (l : List UInt8) (j : Nat) : List (Nat × List UInt8) := (List.range j).map (wOf k0 l)
theorem wsOf_succ (k0 : Nat) (l : List UInt8) (j : Nat) : wsOf k0 l (j + 1) = wsOf k0 l j ++ [wOf k0 l j] := by simp [wsOf, List.range_succ]
theorem wsOf_length (k0 : Nat) (l : List UInt8) (j : Nat) : (wsOf k0 l j).length = j := by simp [wsOf]
theorem wsOf_take (k0 : Nat) (l : List UInt8) (j p : Nat) (h : p ≤ j) : (wsOf k0 l j).take p = wsOf k0 l p := by
  unfold wsOf
  rw [← List.map_take]
  congr 1
  rw [List.take_range, Nat.min_eq_left h]
theorem wOf_len (k0 : Nat) (l : List UInt8) (i : Nat) : (wOf k0 l i).2.length = 64 := pad_length _ (by simp only [List.length_take]; omega)
theorem wrs_form {s : D} {k0 N : Nat} (l : List UInt8) (hin : k0 + N ≤ s.last.length) : ∀ k, k ≤ N → ∃ j lf, j ≤ k ∧ s.wrs k0 l k = ⟨s.last, s.buf ++ wsOf k0 l j, lf⟩ ∧ (lf ≠ 0 → j = k)
  | 0, _ => ⟨0, s.left, Nat.le_refl _, by simp [D.wrs, wsOf], fun _ => rfl⟩
  | k + 1, hk => by
    obtain ⟨j, lf, hj, e, hl⟩ := wrs_form l hin k (by omega)
    by_cases h0 : lf = 0
    · refine ⟨j, lf, by omega, ?_, fun h => absurd h0 h⟩
      show (s.wrs k0 l k).wSt _ _ = _
      rw [e]
      exact wSt_dead h0 _ _
    · obtain rfl := hl h0
      refine ⟨j + 1, tick lf, Nat.le_refl _, ?_, fun _ => rfl⟩
      show (s.wrs k0 l j).wSt _ _ = _
      rw [e, wSt_zero (by rw [refuse_in (by simp only; omega)]; exact if_neg h0) (by simp only [List.length_take]; omega), wsOf_succ, ← List.append_assoc]
      rfl
/-- the bytes that are written to the first j sectors -/
def PL (l : List UInt8) (j : Nat) : List UInt8 := ((List.range j).map fun i => pad ((l.drop (64 * i)).take 64)).flatten
theorem PL_succ (l : List UInt8) (j : Nat) : PL l (j + 1) = PL l j ++ pad ((l.drop (64 * j)).take 64) := by simp [PL, List.range_succ]
theorem PL_length (l : List UInt8) : ∀ j, (PL l j).length = 64 * j
  | 0 => rfl
  | j + 1 => by rw [PL_succ, List.length_append, PL_length l j, pad_length _ (by simp only [List.length_take]; omega)]; omega
theorem PL_take (l : List UInt8) : ∀ j q, q ≤ 64 * j → q ≤ l.length → (PL l j).take q = l.take q
  | 0, q, h, _ => by
    obtain rfl : q = 0 := by omega
    simp
  | j + 1, q, h, hl => by
    have e := PL_length l j
    rw [PL_succ]
    by_cases h1 : q ≤ 64 * j
    · rw [List.take_append_of_le_length (by omega), PL_take l j q h1 hl]
    · have ih := PL_take l j (64 * j) (Nat.le_refl _) (by omega)
      rw [List.take_of_length_le (by omega)] at ih
      rw [List.take_append, e, List.take_of_length_le (by omega), ih]
      unfold pad
      rw [List.take_append_of_le_length (by simp only [List.length_take, List.length_drop]; omega), List.take_take, Nat.min_eq_left (by omega)]
      have : l.take q = l.take (64 * j + (q - 64 * j)) := by congr 1; omega
      rw [this, List.take_add]
theorem PL_get (l : List UInt8) (j i : Nat) (h1 : i < 64 * j) (h2 : i < l.length) : (PL l j)[i]? = l[i]? := by
  have e := congrArg (·[i]?) (PL_take l j (i + 1) (by omega) (by omega))
  simp only [List.getElem?_take, if_pos (Nat.lt_succ_self i)] at e
  exact e
theorem settle_ws {S : List (List UInt8)} (hS : ∀ l ∈ S, l.length = 64) (k0 : Nat) (l : List UInt8) : ∀ j, k0 + j ≤ S.length → (∀ x ∈ settle S (wsOf k0 l j), x.length = 64) ∧ (settle S (wsOf k0 l j)).flatten = splice S.flatten (64 * k0) (PL l j)
  | 0, _ => ⟨hS, by simp [wsOf, settle, PL, splice]⟩
  | j + 1, hj => by
    obtain ⟨h1, h2⟩ := settle_ws hS k0 l j (by omega)
    have hl : (settle S (wsOf k0 l j)).length = S.length := settle_length _ _
    have hf := flat_length 64 S hS
    have hp : (pad ((l.drop (64 * j)).take 64)).length = 64 := pad_length _ (by simp only [List.length_take]; omega)
    have e := PL_length l j
    rw [wsOf_succ, settle_snoc]
    refine ⟨mem_set_len h1 _ _ (wOf_len k0 l j), ?_⟩
    show ((settle S (wsOf k0 l j)).set (k0 + j) (pad ((l.drop (64 * j)).take 64))).flatten = _
    rw [flat_set 64 _ h1 (k0 + j) (by omega) _ hp, h2, PL_succ, ← splice_splice _ _ _ _ (by omega), e]
    congr 1
    omega
/-- with the last one torn -/
theorem settle_torn {S : List (List UInt8)} (hS : ∀ l ∈ S, l.length = 64) (k0 : Nat) (l : List UInt8) (j t : Nat) (hj : k0 + j < S.length) (ht : t ≤ 64) :
    ((settle S (wsOf k0 l j)).set (k0 + j) (tear (wOf k0 l j).2 ((settle S (wsOf k0 l j))[k0 + j]?.getD []) t)).flatten = splice S.flatten (64 * k0) ((PL l (j + 1)).take (64 * j + t)) := by
  obtain ⟨h1, h2⟩ := settle_ws hS k0 l j (by omega)
  have hl : (settle S (wsOf k0 l j)).length = S.length := settle_length _ _
  have hf := flat_length 64 S hS
  have hf1 := flat_length 64 _ h1
  have hp : (pad ((l.drop (64 * j)).take 64)).length = 64 := pad_length _ (by simp only [List.length_take]; omega)
  have e := PL_length l j
  have ho : ((settle S (wsOf k0 l j))[k0 + j]?.getD []).length = 64 := getD_len h1 (by omega)
  have htl : (tear (wOf k0 l j).2 ((settle S (wsOf k0 l j))[k0 + j]?.getD []) t).length = 64 := by
    simp only [tear, List.length_append, List.length_take, List.length_drop, wOf_len, ho]
    omega
  rw [flat_set 64 _ h1 (k0 + j) (by omega) _ htl]
  unfold tear
  have htk : ((wOf k0 l j).2.take t).length = t := by rw [List.length_take, wOf_len]; omega
  rw [splice_part, h2]
  · have h3 : splice S.flatten (64 * k0) (PL l j ++ (wOf k0 l j).2.take t) = splice (splice S.flatten (64 * k0) (PL l j)) (64 * k0 + (PL l j).length) ((wOf k0 l j).2.take t) := (splice_splice _ _ _ _ (by omega)).symm
    have hT : (PL l (j + 1)).take (64 * j + t) = PL l j ++ (wOf k0 l j).2.take t := by
      rw [PL_succ, List.take_append, e, List.take_of_length_le (l := PL l j) (by omega), show 64 * j + t - 64 * j = t by omega]
      rfl
    rw [show (k0 + j) * 64 = 64 * k0 + (PL l j).length by rw [e]; omega, hT]
    exact h3.symm
  · rw [htk, flat_at h1 (by omega), List.drop_take, List.drop_drop, List.length_take, List.length_drop]
    have : min (64 - t) ((settle S (wsOf k0 l j)).flatten.length - (64 * (k0 + j) + t)) = 64 - t := by omega
    rw [this]
    congr 2
    omega

/-! ### what is ahead of a frame, and the frame -/
section
variable {s : D} {k0 r : Nat} {b : List UInt8}
theorem appL_len (h : s.Ok) (hk : k0 < s.last.length) (hr : r < 64) : (s.appL k0 r b).length = r + 16 + b.length := by
  unfold D.appL
  rw [List.length_append, List.length_take, h.told_len hk, frameOf_length]
  omega
theorem appL_ahead (h : s.Ok) (hk : k0 < s.last.length) (hr : r < 64) (hb : s.buf = []) (i : Nat) (hi : i < r) : (s.appL k0 r b)[i]? = s.last.flatten[64 * k0 + i]? := by
  have e : s.flat = s.last.flatten := by unfold D.flat; rw [hb]; rfl
  unfold D.appL
  rw [List.getElem?_append_left (by rw [List.length_take, h.told_len hk]; omega), List.getElem?_take, if_pos hi, h.told_flat hk, List.getElem?_take, if_pos (by omega), List.getElem?_drop, e]
/-- whatever part of what is written stands there: what was ahead is as it was -/
theorem ahead_part (h : s.Ok) (hr : r < 64) (hb : s.buf = []) {j q : Nat} (hin : k0 + j ≤ s.last.length) (hk : k0 < s.last.length) :
    (splice s.last.flatten (64 * k0) ((PL (s.appL k0 r b) j).take q)).take (64 * k0 + r) = s.last.flatten.take (64 * k0 + r) := by
  have e := PL_length (s.appL k0 r b) j
  have hf := flat_length 64 s.last h.sec
  have hl := appL_len (b := b) h hk hr
  refine splice_ahead _ _ _ _ (by rw [List.length_take]; omega) fun i hi hv => ?_
  rw [List.length_take] at hv
  rw [List.getElem?_take, if_pos (by omega), PL_get _ _ _ (by omega) (by omega)]
  exact appL_ahead h hk hr hb i hi
/-- all of it -/
theorem whole_part (h : s.Ok) (hr : r < 64) (hin : k0 + (r + 8 + 8 + b.length + 63) / 64 ≤ s.last.length) :
    ((splice s.last.flatten (64 * k0) (PL (s.appL k0 r b) ((r + 8 + 8 + b.length + 63) / 64))).drop (64 * k0 + r)).take (16 + b.length) = frameOf b := by
  have hk : k0 < s.last.length := by omega
  have e := PL_length (s.appL k0 r b) ((r + 8 + 8 + b.length + 63) / 64)
  have hf := flat_length 64 s.last h.sec
  have hl := appL_len (b := b) h hk hr
  have hfl := frameOf_length b
  apply List.ext_getElem?
  intro i
  rw [List.getElem?_take]
  by_cases hi : i < 16 + b.length
  · rw [if_pos hi, List.getElem?_drop, splice_get _ _ _ _ (by omega), if_neg (by omega), if_pos (by omega), PL_get _ _ _ (by omega) (by omega)]
    have ht : ((s.told k0).take r).length = r := by rw [List.length_take, h.told_len hk]; omega
    unfold D.appL
    rw [List.getElem?_append_right (by omega), ht]
    congr 1
    omega
  · rw [if_neg hi, List.getElem?_eq_none (by omega)]

/-- what Append leaves of a disk on which nothing waits: it answered OK, and the frame stands there; or not, and of a part of its writes nothing is flushed -/
theorem app_form (hin : k0 + (r + 8 + 8 + b.length + 63) / 64 ≤ s.last.length) (hb : s.buf = []) :
    ((s.appW k0 r b).fErr = 0 ∧ (s.appW k0 r b).fSt.buf = [] ∧ (s.appW k0 r b).fSt.last = settle s.last (wsOf k0 (s.appL k0 r b) ((r + 8 + 8 + b.length + 63) / 64))) ∨
    ((s.appW k0 r b).fErr = 32 ∧ ∃ j, j ≤ (r + 8 + 8 + b.length + 63) / 64 ∧ (s.appW k0 r b).fSt.buf = wsOf k0 (s.appL k0 r b) j ∧ (s.appW k0 r b).fSt.last = s.last) := by
  obtain ⟨j, lf, hj, e, hl⟩ := wrs_form (s := s) (k0 := k0) (s.appL k0 r b) hin _ (Nat.le_refl _)
  have e' : s.appW k0 r b = ⟨s.last, wsOf k0 (s.appL k0 r b) j, lf⟩ := by
    unfold D.appW
    rw [e, hb, List.nil_append]
  rw [e']
  by_cases h0 : lf = 0
  · refine .inr ⟨fErr_dead h0, j, hj, ?_, ?_⟩
    · rw [fSt_dead h0]
    · rw [fSt_dead h0]
  · obtain rfl := hl h0
    refine .inl ⟨?_, ?_, ?_⟩
    · unfold D.fErr; rw [if_neg h0]
    · unfold D.fSt; rw [if_neg h0]
    · unfold D.fSt; rw [if_neg h0]
end
end Go.Proofs.Ytbfhlleipeipbaa

/- What is proved: plain facts on a journal that has frames: what is told of it, behind an Append, behind one that is cut off, and behind a crash. No condition but those in each statement. -/
namespace Go.Proofs.Ytbfhlleipeipbaa
open Go.RowKit

structure Has (x : JS) (fs : List (List UInt8)) : Prop where
  ok : x.Ok
  dok : x.d.Ok
  area : x.d.area x.fr x.en = framesOf fs
  cn : x.cn = fs.length
  short : ∀ b ∈ fs, b.length ≤ 1048576
theorem Has.zero {s : D} (h : s.Ok) {fr tt : Nat} (h1 : fr ≤ tt) (h2 : tt ≤ s.last.length) : Has ⟨s, fr, tt, 0, 0⟩ [] :=
  ⟨⟨h1, h2, Nat.zero_le _, Nat.zero_le _⟩, h, by simp [D.area, framesOf], rfl, by simp⟩
theorem Has.split {x : JS} {fs : List (List UInt8)} (h : Has x fs) : splitOf (x.d.area x.fr x.en) = some fs := by
  rw [h.area]
  exact splitOf_frames fs fun b hb => Nat.le_trans (h.short b hb) (by decide)
/-- it is opened as it is -/
theorem Has.opens {x : JS} {fs : List (List UInt8)} (h : Has x fs) (hu : x.d.left ≠ 0) : x.d.openErr (x.fr : Int) (x.to : Int) (x.en : Int) (x.cn : Int) = 0 ∧ x.d.openFs (x.fr : Int) (x.en : Int) = fs := by
  obtain ⟨a1, a2, a3, a4⟩ := h.ok
  have hb : ¬ x.d.badArea (x.fr : Int) (x.to : Int) := by unfold D.badArea; omega
  refine ⟨?_, ?_⟩
  · unfold D.openErr
    rw [if_neg hb, if_neg (by omega), if_neg hu, Int.toNat_natCast, Int.toNat_natCast, h.split, if_pos]
    exact ⟨rfl, by rw [h.cn]; rfl⟩
  · unfold D.openFs
    rw [Int.toNat_natCast, Int.toNat_natCast, h.split]
    rfl
theorem JS.Ok.sectors {x : JS} (h : x.Ok) : x.fr + (x.en + 63) / 64 ≤ x.d.last.length := by
  obtain ⟨a1, a2, a3, a4⟩ := h
  omega
theorem cut_take {X Y : List UInt8} {o n : Nat} (h : X.take (o + n) = Y.take (o + n)) : (X.drop o).take n = (Y.drop o).take n := by
  have e : ∀ Z : List UInt8, (Z.drop o).take n = (Z.take (o + n)).drop o := fun Z => by rw [List.drop_take]; congr 1; omega
  rw [e X, e Y, h]
theorem flat_nobuf {s : D} (h : s.buf = []) : s.flat = s.last.flatten := by unfold D.flat; rw [h]; rfl
theorem cSt_flat (s : D) (k t : Int) : (s.cSt k t).flat = (s.cLast k t).flatten := rfl
theorem cLast_nobuf {s : D} (h : s.buf = []) (k t : Int) : s.cLast k t = s.last := by
  unfold D.cLast
  rw [h]
  simp [settle]
/-- a disk on which a part of an Append's writes waits, behind a crash -/
theorem cLast_part {s : D} {k0 j : Nat} {l : List UInt8} (hS : ∀ x ∈ s.last, x.length = 64) (hb : s.buf = wsOf k0 l j) (hin : k0 + j ≤ s.last.length) (k t : Int) : ∃ i q, i ≤ j ∧ (s.cLast k t).flatten = splice s.last.flatten (64 * k0) ((PL l i).take q) := by
  have hl : s.buf.length = j := by rw [hb, wsOf_length]
  unfold D.cLast
  rw [hl]
  have hp : clampN k j ≤ j := by unfold clampN; omega
  have ht : clampN t 64 ≤ 64 := by unfold clampN; omega
  generalize clampN k j = p at *
  generalize clampN t 64 = u at *
  rw [hb, wsOf_take _ _ _ _ hp]
  by_cases hpj : p < j
  · have e : (wsOf k0 l j)[p]? = some (wOf k0 l p) := by simp [wsOf, hpj]
    rw [e]
    exact ⟨p + 1, 64 * p + u, by omega, settle_torn hS k0 l p u (by omega) ht⟩
  · obtain rfl : p = j := by omega
    have e : (wsOf k0 l p)[p]? = none := by simp [wsOf]
    rw [e]
    refine ⟨p, 64 * p, Nat.le_refl _, ?_⟩
    rw [List.take_of_length_le (by rw [PL_length]; exact Nat.le_refl _)]
    exact (settle_ws hS k0 l p (by omega)).2

section
variable {x : JS} {fs : List (List UInt8)} {b : List UInt8}
theorem JS.Ok.place (h : x.Ok) (hf : x.en + 16 + b.length ≤ 64 * (x.to - x.fr)) : x.fr + x.en / 64 + (x.en % 64 + 8 + 8 + b.length + 63) / 64 ≤ x.d.last.length := by
  obtain ⟨a1, a2, a3, a4⟩ := h
  omega
/-- the frames are there, if what is ahead of the end is as it was -/
theorem Has.keep (h : Has x fs) {d : D} (hd : d.Ok) (hl : d.last.length = x.d.last.length) (hF : d.flat.take (64 * x.fr + x.en) = x.d.flat.take (64 * x.fr + x.en)) : Has ⟨d, x.fr, x.to, x.en, x.cn⟩ fs := by
  have hs := h.ok.sectors
  obtain ⟨a1, a2, a3, a4⟩ := h.ok
  refine ⟨⟨a1, by simp only; omega, a3, a4⟩, hd, ?_, h.cn, h.short⟩
  show d.area x.fr x.en = _
  rw [hd.area_flat (by omega), cut_take hF, ← h.dok.area_flat hs]
  exact h.area
/-- ... and the new one with them, if it stands there -/
theorem Has.more (h : Has x fs) {d : D} (hd : d.Ok) (hl : d.last.length = x.d.last.length) (hF : d.flat.take (64 * x.fr + x.en) = x.d.flat.take (64 * x.fr + x.en)) (hb : b.length ≤ 1048576) (hf : x.en + 16 + b.length ≤ 64 * (x.to - x.fr))
    (hN : (d.flat.drop (64 * x.fr + x.en)).take (16 + b.length) = frameOf b) : Has ⟨d, x.fr, x.to, x.en + 16 + b.length, x.cn + 1⟩ (fs ++ [b]) := by
  have hs := h.ok.sectors
  obtain ⟨a1, a2, a3, a4⟩ := h.ok
  have hk := (h.keep hd hl hF).area
  refine ⟨⟨a1, by simp only; omega, by simp only; omega, by simp only; omega⟩, hd, ?_, by simp [h.cn], ?_⟩
  · show d.area x.fr (x.en + 16 + b.length) = _
    have hk' : d.area x.fr x.en = framesOf fs := hk
    rw [hd.area_flat (by omega)] at hk' ⊢
    rw [Nat.add_assoc, take_more, hk', hN, framesOf_snoc]
  · intro c hc
    rcases List.mem_append.1 hc with hc | hc
    · exact h.short c hc
    · simp at hc
      subst hc
      exact hb
theorem appW_ok {s : D} (h : s.Ok) (k r : Nat) (b : List UInt8) : (s.appW k r b).Ok := h.wrs _ _ _
/-- what Append does to a journal on whose disk nothing waits, and a crash behind it -/
theorem Has.append (h : Has x fs) (hbuf : x.d.buf = []) (hb : b.length ≤ 1048576) (hf : x.en + 16 + b.length ≤ 64 * (x.to - x.fr)) (hu : x.d.left ≠ 0) :
    (x.err b = 0 ∧ Has (x.app b) (fs ++ [b]) ∧ (x.app b).d.buf = [] ∧ x.app b = ⟨(x.app b).d, x.fr, x.to, x.en + 16 + b.length, x.cn + 1⟩ ∧ Has ⟨(x.app b).d, x.fr, x.to, x.en, x.cn⟩ fs) ∨
    (x.err b = 32 ∧ x.app b = ⟨(x.app b).d, x.fr, x.to, x.en, x.cn⟩ ∧ ∀ k t, Has ⟨(x.app b).d.cSt k t, x.fr, x.to, x.en, x.cn⟩ fs) := by
  have hin := h.ok.place hf
  have hs := h.ok.sectors
  obtain ⟨a1, a2, a3, a4⟩ := h.ok
  have hw : x.wr b = x.d.appW (x.fr + x.en / 64) (x.en % 64) b := rfl
  have hk : 64 * x.fr + x.en = 64 * (x.fr + x.en / 64) + x.en % 64 := by omega
  have hdok := (appW_ok h.dok (x.fr + x.en / 64) (x.en % 64) b).fSt
  have hll : (x.wr b).fSt.last.length = x.d.last.length := x.wr_last b
  have hfl := flat_nobuf hbuf
  rcases app_form (b := b) hin hbuf with ⟨e1, e2, e3⟩ | ⟨e1, j, hj, e2, e3⟩
  · refine .inl ?_
    have ea : x.app b = ⟨(x.wr b).fSt, x.fr, x.to, x.en + 16 + b.length, x.cn + 1⟩ := by
      unfold JS.app
      rw [if_neg (by omega), if_neg (by omega), if_neg hu, if_pos (by rw [hw]; exact e1)]
    have ee : x.err b = 0 := by
      unfold JS.err
      rw [if_neg (by omega), if_neg (by omega), if_neg hu, hw]
      exact e1
    have eF : (x.wr b).fSt.flat = splice x.d.last.flatten (64 * (x.fr + x.en / 64)) (PL (x.d.appL (x.fr + x.en / 64) (x.en % 64) b) ((x.en % 64 + 8 + 8 + b.length + 63) / 64)) := by
      rw [hw, flat_nobuf e2, e3]
      exact (settle_ws h.dok.sec _ _ _ hin).2
    have h1 : (x.wr b).fSt.flat.take (64 * x.fr + x.en) = x.d.flat.take (64 * x.fr + x.en) := by
      have := ahead_part (b := b) (q := 64 * ((x.en % 64 + 8 + 8 + b.length + 63) / 64)) h.dok (Nat.mod_lt x.en (by decide)) hbuf hin (by omega)
      rw [List.take_of_length_le (l := PL _ _) (by rw [PL_length]; exact Nat.le_refl _)] at this
      rw [eF, hfl, hk, this]
    have h2 : ((x.wr b).fSt.flat.drop (64 * x.fr + x.en)).take (16 + b.length) = frameOf b := by
      rw [eF, hk]
      exact whole_part h.dok (Nat.mod_lt x.en (by decide)) hin
    rw [ea]
    exact ⟨ee, h.more hdok hll h1 hb hf h2, by rw [hw]; exact e2, rfl, h.keep hdok hll h1⟩
  · refine .inr ?_
    have ea : x.app b = ⟨(x.wr b).fSt, x.fr, x.to, x.en, x.cn⟩ := by
      unfold JS.app
      rw [if_neg (by omega), if_neg (by omega), if_neg hu, if_neg (by rw [hw, e1]; decide)]
    have ee : x.err b = 32 := by
      unfold JS.err
      rw [if_neg (by omega), if_neg (by omega), if_neg hu, hw]
      exact e1
    rw [ea]
    refine ⟨ee, rfl, fun k t => h.keep (hdok.cSt k t) ?_ ?_⟩
    · exact (hdok.cLast_ok k t).2.trans hll
    · obtain ⟨i, q, hi, eF⟩ := cLast_part (s := (x.d.appW (x.fr + x.en / 64) (x.en % 64) b).fSt) hdok.sec e2 (by rw [e3]; omega) k t
      rw [cSt_flat, hw, eF, e3, hk, hfl]
      exact ahead_part h.dok (Nat.mod_lt x.en (by decide)) hbuf (by omega) (by omega)
theorem cSt_same {s : D} (h : s.buf = []) (k t : Int) : s.cSt k t = ⟨s.last, [], -1⟩ := by unfold D.cSt; rw [cLast_nobuf h]
/-- a crash where nothing waits -/
theorem Has.crash (h : Has x fs) (hbuf : x.d.buf = []) (k t : Int) : Has ⟨x.d.cSt k t, x.fr, x.to, x.en, x.cn⟩ fs := by
  refine h.keep (h.dok.cSt k t) (h.dok.cLast_ok k t).2 ?_
  rw [cSt_flat, cLast_nobuf hbuf, flat_nobuf hbuf]
theorem Has.arm (h : Has x fs) (n : Int) (h1 : -9223372036854775808 ≤ n) (h2 : n ≤ 9223372036854775807) : Has ⟨x.d.aSt n, x.fr, x.to, x.en, x.cn⟩ fs := by
  have e1 : (x.d.aSt n).last = x.d.last := by unfold D.aSt; split <;> rfl
  have e2 : (x.d.aSt n).buf = x.d.buf := by unfold D.aSt; split <;> rfl
  refine h.keep (h.dok.aSt n h1 h2) (by rw [e1]) ?_
  unfold D.flat
  rw [e1, e2]
end
end Go.Proofs.Ytbfhlleipeipbaa

/- What is proved: what the sectors of a store hold: the cell tells area, end and count, and the area's frames are the batches that make its pairs; a Commit keeps it, and so does a crash behind which nothing waits. Conditions: those in each statement. -/
namespace Go.Proofs.Ytbfhlleipeipbaa
open Go.RowKit Go.Lib Go.Sort

/-! ### sector by sector -/
theorem told_fSt (s : D) (i : Nat) : s.fSt.told i = s.told i := by
  unfold D.fSt
  split
  · rfl
  · rfl
theorem told_wSt_other (s : D) (j : Int) (l : List UInt8) (i : Nat) (h : i ≠ j.toNat) : (s.wSt j l).told i = s.told i := by
  unfold D.wSt
  split
  · rfl
  · split
    · rfl
    · unfold D.told
      simp only
      rw [settle_snoc, List.getElem?_set_ne (Ne.symm h)]
theorem told_wSt_self {s : D} {j : Nat} {l : List UInt8} (hr : s.refuse (j : Int) = 0) (hl : ¬ 64 < l.length) (hj : j < s.last.length) : (s.wSt (j : Int) l).told j = pad l := by
  unfold D.wSt
  rw [if_neg (fun k => k hr), if_neg hl]
  unfold D.told
  simp only [Int.toNat_natCast]
  rw [settle_snoc, List.getElem?_set_self (by rw [settle_length]; exact hj)]
  rfl
theorem told_wrs (s : D) (k0 : Nat) (l : List UInt8) (i : Nat) (h : i < k0) : ∀ k, (s.wrs k0 l k).told i = s.told i
  | 0 => rfl
  | k + 1 => by
    show ((s.wrs k0 l k).wSt _ _).told i = _
    rw [told_wSt_other _ _ _ _ (by omega), told_wrs s k0 l i h k]
theorem told_app (x : JS) (b : List UInt8) (i : Nat) (h : i < x.fr) : (x.app b).d.told i = x.d.told i := by
  have hw : (x.wr b).fSt.told i = x.d.told i := by
    rw [told_fSt]
    exact told_wrs _ _ _ _ (by omega) _
  unfold JS.app
  split
  · rfl
  · split
    · rfl
    · split
      · rfl
      · split
        · exact hw
        · exact hw
theorem area_same {d d' : D} {k n : Nat} (h : ∀ i, k ≤ i → d'.told i = d.told i) : d'.area k n = d.area k n := by
  unfold D.area D.bytes
  congr 2
  apply List.map_congr_left
  intro i _
  exact h _ (by omega)
theorem pad_sec (h : H4) : pad (secB h) = secB h := by
  unfold pad
  rw [secB_length]
  simp
/-! ### the cell -/
theorem placeOf_nat (t : Int) : ∃ p : Nat, p < 2 ∧ placeOf t = (p : Int) := by
  unfold placeOf
  split
  · exact ⟨0, by omega, rfl⟩
  · exact ⟨1, by omega, rfl⟩
theorem set_told {d : D} {h : H4} (hl : d.left < 0) (hN : 2 ≤ d.last.length) (ht : h.t < 4611686018427387904) (a e c : Int) :
    ∃ p : Nat, p < 2 ∧ (setSt d h a e c).told p = secB (nextH h a e c) ∧ ∀ i, i ≠ p → (setSt d h a e c).told i = d.told i := by
  obtain ⟨p, hp, ep⟩ := placeOf_nat (h.t + 1)
  have hr : d.refuse (p : Int) = 0 := by
    unfold D.refuse
    rw [if_neg (by omega), if_neg (by omega)]
  have hw : d.wErr (p : Int) 64 = 0 := by
    unfold D.wErr
    rw [if_neg (fun k => k hr), if_neg (by omega)]
  refine ⟨p, hp, ?_, fun i hi => ?_⟩
  · unfold setSt
    rw [if_neg (by omega), ep, if_neg (fun k => k hw), told_fSt, told_wSt_self hr (by rw [secB_length]; omega) (by omega), pad_sec]
  · unfold setSt
    rw [if_neg (by omega), ep, if_neg (fun k => k hw), told_fSt, told_wSt_other _ _ _ _ (by simpa using hi)]
theorem set_ok {d : D} (hd : d.Ok) (h : H4) (a e c : Int) : (setSt d h a e c).Ok := by
  unfold setSt
  split
  · exact hd
  · split
    · exact hd.wSt _ _
    · exact (hd.wSt _ _).fSt
theorem pick_t (h n : H4) : h.t ≤ (pickH h n).t ∧ n.t ≤ (pickH h n).t := by
  unfold pickH
  split <;> omega
theorem openH_set {d : D} {h : H4} (ho : openH d = h) (hl : d.left < 0) (hN : 2 ≤ d.last.length) (ht : h.t < 4611686018427387904) (a e c : Int) (hi : (nextH h a e c).In) : openH (setSt d h a e c) = nextH h a e c := by
  obtain ⟨p, hp, h1, h2⟩ := set_told hl hN ht a e c
  have k1 := pick_t H4.zero (toldOf (d.told 0))
  have k2 := pick_t (pickH H4.zero (toldOf (d.told 0))) (toldOf (d.told 1))
  rw [← openH_eq, ho] at k2
  have hz : H4.zero.t = 0 := rfl
  have hn : (nextH h a e c).t = h.t + 1 := rfl
  rw [openH_eq]
  rcases (show p = 0 ∨ p = 1 by omega) with rfl | rfl
  · rw [h1, h2 1 (by omega), toldOf_sec _ hi, pickH_gt (h := H4.zero) (by omega), pickH_le (by omega)]
  · rw [h1, h2 0 (by omega), toldOf_sec _ hi, pickH_gt (by omega)]
theorem openH_same {d d' : D} (h : ∀ i, i < 2 → d'.told i = d.told i) : openH d' = openH d := by
  rw [openH_eq, openH_eq, h 0 (by omega), h 1 (by omega)]
/-! ### the journal -/
theorem Has.cell {x : JS} {fs : List (List UInt8)} (h : Has x fs) {h4 : H4} {a e c : Int} (hfr : 2 ≤ x.fr) (hl : x.d.left < 0) (hN : 2 ≤ x.d.last.length) (ht : h4.t < 4611686018427387904) : Has ⟨setSt x.d h4 a e c, x.fr, x.to, x.en, x.cn⟩ fs := by
  obtain ⟨p, hp, _, h2⟩ := set_told hl hN ht a e c
  obtain ⟨a1, a2, a3, a4⟩ := h.ok
  refine ⟨⟨a1, by simp only [setSt_len]; exact a2, a3, a4⟩, set_ok h.dok _ _ _ _, ?_, h.cn, h.short⟩
  show (setSt x.d h4 a e c).area x.fr x.en = _
  rw [area_same (fun i hi => h2 i (by omega))]
  exact h.area
/-- what the sectors of a store hold -/
structure Rep (N T : Nat) (x : SS) (a en cn : Nat) (bs : List (List Cg)) : Prop where
  inv : Inv N T x a en cn
  cell : openH x.d = x.h
  has : Has (areaJ x.d a en cn) (bs.map batB)
  all : allC [] bs.flatten = x.P
  live : Live x.P
  nrm : ∀ b ∈ bs, ∀ y ∈ b, norm y = y
theorem norm_norm (c : Cg) : norm (norm c) = norm c := by
  unfold norm
  by_cases h : c.gone = true
  · rw [if_pos h]; rfl
  · rw [if_neg h, if_neg h]
theorem live_norm {l : List Cg} (h : Live l) : ∀ y ∈ l, norm y = y := fun y hy => by
  unfold norm
  rw [if_neg (by rw [h y hy]; decide)]
theorem Rep.new {N : Nat} (h : 4 ≤ N) (hN : N ≤ 65536) : Rep N 0 (newX N) 0 0 0 [] :=
  ⟨newX_inv h, new_openH h, Has.zero (newSt_ok N (by omega) hN) (Nat.le_add_right _ _) (by have e : (newX N).d.last.length = N := new_len N; rw [e, new_len]; exact frA_in (a := 0) h (by omega)), rfl, (fun c hc => by cases hc), (fun b hb => by cases hb)⟩
theorem areaJ_fr (d : D) (a en cn : Nat) : 2 ≤ (areaJ d a en cn).fr := by
  show 2 ≤ frA _ a
  unfold frA
  omega
theorem Rep.commit {N T : Nat} {x : SS} {a en cn : Nat} {bs : List (List Cg)} (h : Rep N T x a en cn bs) (hN : 4 ≤ N) (hT : T < 4611686018427387904) (l : List Cg) (hf : fitsB N en (batB l).length ∨ fitsB N 0 (batB (allC x.P l)).length) :
    ∃ a' en' cn' bs', Rep N (T + 1) (comX x a en cn l) a' en' cn' bs' := by
  have hv := h.inv
  obtain ⟨hE, hP, a', en', cn', hi'⟩ := hv.commit hN hT l hf
  have e1 := areaJ_err (a := a) (en := en) (cn := cn) hv.lft (batB l)
  have e2 := areaJ_err (a := 1 - a) (en := 0) (cn := 0) hv.lft (batB (allC x.P l))
  rw [hv.len] at e1 e2
  -- the journal that is laid
  have key : ∃ bs' : List (List Cg), Has (comL x.d a en cn x.P l) (bs'.map batB) ∧ allC [] bs'.flatten = allC x.P l ∧ (comL x.d a en cn x.P l).fr = frA N (comA x.d a en cn l) ∧ (comL x.d a en cn x.P l).to = frA N (comA x.d a en cn l) + hlf N ∧ (∀ i, i < 2 → (comL x.d a en cn x.P l).d.told i = x.d.told i) ∧ comE1 x.d a en cn x.P l = 0 ∧ ∀ b ∈ bs', ∀ y ∈ b, norm y = y := by
    obtain ⟨f1, f2, f3⟩ := layJ_fields x.d a en cn (batB l) (batB (allC x.P l))
    rw [hv.len] at f1 f2
    by_cases hfit : fitsB N en (batB l).length
    · have h0 := e1.1 hfit
      have hL : comL x.d a en cn x.P l = (areaJ x.d a en cn).app (batB l) := by unfold comL layJ; rw [if_neg (by rw [h0]; unfold full; omega)]
      have hE1 : comE1 x.d a en cn x.P l = 0 := by unfold comE1 layE; rw [if_neg (by rw [h0]; unfold full; omega), h0]
      have hto : 64 * ((areaJ x.d a en cn).to - (areaJ x.d a en cn).fr) = 64 * hlf N := by show 64 * (frA _ a + hlf x.d.last.length - frA _ a) = _; rw [hv.len]; omega
      rcases h.has.append hv.buf hfit.1 (by rw [hto]; exact hfit.2) (by show x.d.left ≠ 0; have := hv.lft; omega) with ⟨_, k2, _, _, _⟩ | ⟨k1, _, _⟩
      · refine ⟨bs ++ [l.map norm], by rw [hL, List.map_append, List.map_singleton, batB_norm]; exact k2, ?_, f1, f2, fun i hi => ?_, hE1, fun b hb y hy => ?_⟩
        · rw [List.flatten_append, allC_append, h.all, List.flatten_singleton, allC_norm]
        · rw [hL]
          exact told_app _ _ _ (Nat.lt_of_lt_of_le hi (areaJ_fr _ _ _ _))
        · rcases List.mem_append.1 hb with hb | hb
          · exact h.nrm b hb y hy
          · obtain rfl := List.mem_singleton.1 hb
            obtain ⟨z, _, rfl⟩ := List.mem_map.1 hy
            exact norm_norm z
      · rw [h0] at k1; cases k1
    · have hfu := e1.2 hfit
      have hfit2 := hf.resolve_left hfit
      have h0 := e2.1 hfit2
      have hL : comL x.d a en cn x.P l = (areaJ x.d (1 - a) 0 0).app (batB (allC x.P l)) := by unfold comL layJ; rw [if_pos hfu]
      have hE1 : comE1 x.d a en cn x.P l = 0 := by unfold comE1 layE; rw [if_pos hfu, if_neg (by rw [h0]; unfold full; omega), h0]
      have hto : 64 * ((areaJ x.d (1 - a) 0 0).to - (areaJ x.d (1 - a) 0 0).fr) = 64 * hlf N := by show 64 * (frA _ (1 - a) + hlf x.d.last.length - frA _ (1 - a)) = _; rw [hv.len]; omega
      have hz : Has (areaJ x.d (1 - a) 0 0) [] := Has.zero (s := x.d) h.has.dok (Nat.le_add_right _ _) (by rw [hv.len]; exact frA_in (a := 1 - a) hN (by omega))
      rcases hz.append (b := batB (allC x.P l)) hv.buf hfit2.1 (by rw [hto]; exact hfit2.2) (by show x.d.left ≠ 0; have := hv.lft; omega) with ⟨_, k2, _, _, _⟩ | ⟨k1, _, _⟩
      · refine ⟨[allC x.P l], by rw [hL]; exact k2, ?_, f1, f2, fun i hi => ?_, hE1, fun b hb y hy => ?_⟩
        · rw [List.flatten_singleton]
          exact allC_snap (allC_asc hv.asc) (allC_live l x.P h.live hv.asc)
        · rw [hL]
          exact told_app _ _ _ (Nat.lt_of_lt_of_le hi (areaJ_fr _ _ _ _))
        · obtain rfl := List.mem_singleton.1 hb
          exact live_norm (allC_live l x.P h.live hv.asc) y hy
      · rw [h0] at k1; cases k1
  obtain ⟨bs', hH, hA, hfr, hto, ht, hE1, hNr⟩ := key
  have hX : comX x a en cn l = comS x a en cn l := by unfold comX; rw [hE, if_neg (by omega)]
  have hS : comS x a en cn l = ⟨setSt (comL x.d a en cn x.P l).d x.h (comA x.d a en cn l) (comL x.d a en cn x.P l).en (comL x.d a en cn x.P l).cn, nextH x.h (comA x.d a en cn l) (comL x.d a en cn x.P l).en (comL x.d a en cn x.P l).cn, allC x.P l, x.st⟩ := by
    unfold comS; rw [if_neg (fun k => k hE1), if_neg (fun k => k hE)]
  have hdisk := layJ_disk hv.lft hv.buf a en cn (batB l) (batB (allC x.P l))
  have hll := (layJ_fields x.d a en cn (batB l) (batB (allC x.P l))).2.2
  have hcl : (comL x.d a en cn x.P l).d.left < 0 := by show (layJ _ _ _ _ _ _).d.left < 0; rw [hdisk.1]; exact hv.lft
  have hcn : (comL x.d a en cn x.P l).d.last.length = N := by show (layJ _ _ _ _ _ _).d.last.length = N; rw [hll]; exact hv.len
  have htn := hv.tn
  rw [hX, hS] at hi' ⊢
  have ea : (comA x.d a en cn l : Int) = (a' : Int) := hi'.ha
  have ee : ((comL x.d a en cn x.P l).en : Int) = (en' : Int) := hi'.he
  have ec : ((comL x.d a en cn x.P l).cn : Int) = (cn' : Int) := hi'.hc
  have ea' : comA x.d a en cn l = a' := by omega
  have ee' : (comL x.d a en cn x.P l).en = en' := by omega
  have ec' : (comL x.d a en cn x.P l).cn = cn' := by omega
  have hin : (nextH x.h (comA x.d a en cn l) (comL x.d a en cn x.P l).en (comL x.d a en cn x.P l).cn).In := by
    have h1 := hi'.a1
    have h2 := hi'.lo
    have h3 := hi'.ct
    have h4 := hH.ok.dk
    have h5 := hH.dok.most
    unfold hlf at h2
    unfold H4.In nextH
    simp only
    omega
  refine ⟨a', en', cn', bs', hi', ?_, ?_, hA, allC_live l x.P h.live hv.asc, hNr⟩
  · exact openH_set ((openH_same ht).trans h.cell) hcl (by omega) (by omega) _ _ _ hin
  · have := hH.cell (h4 := x.h) (a := (comA x.d a en cn l : Int)) (e := ((comL x.d a en cn x.P l).en : Int)) (c := ((comL x.d a en cn x.P l).cn : Int)) (by rw [hfr]; unfold frA; omega) hcl (by omega) (by omega)
    rw [hfr, hto, ea', ee', ec'] at this
    unfold areaJ
    simp only [setSt_len, hcn]
    rw [ea', ee', ec']
    exact this
theorem mem_frames {fs : List (List UInt8)} : ∀ {b : List UInt8}, b ∈ fs → b.length ≤ (framesOf fs).length := by
  induction fs with
  | nil => intro b hb; cases hb
  | cons f fs ih =>
    intro b hb
    rw [framesOf_cons, List.length_append, frameOf_length]
    rcases List.mem_cons.1 hb with rfl | hb
    · omega
    · have := ih hb; omega
theorem flat_frames : ∀ bs : List (List Cg), bs.flatten.length ≤ (framesOf (bs.map batB)).length
  | [] => Nat.le_refl _
  | b :: bs => by
    have h1 := flat_frames bs
    have h2 := chsB_len b
    rw [List.flatten_cons, List.map_cons, framesOf_cons, List.length_append, List.length_append, frameOf_length, batB_length]
    omega
theorem chB_has (y : Cg) (h : norm y = y) : y.key.size + y.val.size ≤ (chB y).length := by
  obtain ⟨k, v, g⟩ := y
  cases g
  · rw [chB_no]
    simp only [List.length_append, dig_length, size_toList]
    omega
  · rw [chB_yes]
    have hv : v = ⟨#[]⟩ := by
      have : norm ⟨k, v, true⟩ = ⟨k, ⟨#[]⟩, true⟩ := rfl
      rw [this] at h
      injection h with _ h2
      exact h2.symm
    subst hv
    simp only [List.length_append, dig_length, size_toList]
    show k.size + 0 ≤ _
    omega
theorem mem_chsB : ∀ (l : List Cg) (y : Cg), y ∈ l → (chB y).length ≤ (chsB l).length
  | c :: l, y, h => by
    rw [chsB_cons, List.length_append]
    rcases List.mem_cons.1 h with rfl | h
    · omega
    · have := mem_chsB l y h; omega
/-- behind a crash it is opened as it was -/
theorem Rep.opOk {N T : Nat} {x : SS} {a en cn : Nat} {bs : List (List Cg)} (h : Rep N T x a en cn bs) (k t : Int) : OpOk (x.d.cSt k t) a bs ∧ (x.d.cSt k t).left < 0 ∧ (x.d.cSt k t).last.length = N ∧ (x.d.cSt k t).buf = [] := by
  have hv := h.inv
  have hc := cSt_same hv.buf k t
  have hl : (x.d.cSt k t).last.length = N := by rw [hc]; exact hv.len
  have ho : openH (x.d.cSt k t) = x.h := by
    rw [← h.cell]
    refine openH_same fun i _ => ?_
    rw [hc]
    unfold D.told
    rw [hv.buf]
  have hh := h.has.crash hv.buf k t
  have hop := hh.opens (by show (x.d.cSt k t).left ≠ 0; rw [hc]; show (-1 : Int) ≠ 0; omega)
  have hlen : (framesOf (bs.map batB)).length ≤ en := by
    rw [← h.has.area]
    show (D.area _ _ en).length ≤ en
    unfold D.area
    exact List.length_take_le _ _
  have hlo := hv.lo
  have hd := h.has.dok.most
  have hd' : N ≤ 65536 := by rw [← hv.len]; exact hd
  unfold hlf at hlo
  refine ⟨⟨by rw [ho]; exact hv.ha, hv.a1, ?_, ?_, fun b hb => ?_, fun b hb y hy => ?_, ?_, ?_⟩, by rw [hc]; show (-1 : Int) < 0; omega, hl, by rw [hc]⟩
  · rw [hl, ho, hv.he, hv.hc]
    have := hop.1
    simp only [areaJ, hv.len] at this
    rw [Int.natCast_add] at this
    exact this
  · rw [hl, ho, hv.he]
    have := hop.2
    simp only [areaJ, hv.len] at this
    exact this
  · have := mem_frames (List.mem_map_of_mem (f := batB) hb)
    omega
  · have h1 := mem_frames (List.mem_map_of_mem (f := batB) hb)
    have h2 := chB_has y (h.nrm b hb y hy)
    have h3 := mem_chsB b y hy
    rw [batB_length] at h1
    omega
  · have := flat_frames bs
    omega
  · have h1 := h.has.cn
    have h2 : cn = (bs.map batB).length := h1
    have h3 := hv.ct
    rw [List.length_map] at h2
    omega
end Go.Proofs.Ytbfhlleipeipbaa

/- What is proved: what StoreFull needs beside: a Commit to a store whose sectors hold its pairs, the pair that is too great, a crash. Conditions: those in each statement. -/
namespace Go.Proofs.Ytbfhlleipeipbaa
open Go.RowKit Go.Lib Go.Sort

theorem crash_mine {w0 w : World} {g : Nat} {s : D} (h : Mine w0 w g s) (k t : Int) (hn : s.buf.length ≤ 4611686018427387904) : Calls Try.prog 18 #[.pointer (some ⟨g, 0, none⟩), .int .i64 k, .int .i64 t] w fun e w' => e = .returned (.tuple #[]) ∧ Mine w0 w' g (s.cSt k t) ∧ OthersD w w' := by
  obtain ⟨L, q, hd, hb0, hf⟩ := h
  exact (crash_any w g L q s hd k t hn).mono fun e w' ⟨h1, h2⟩ => ⟨h1, Mine.afterD hd hb0 hf h2⟩
theorem told_othersS {W W' : World} {B n : Nat} {v : Value} {xs : List Value} (h : W.ownsRow B 48 3 v n xs) (ho : OthersS W W') : W'.ownsRow B 48 3 v n xs :=
  own_cells h fun b C t fr ht hb => by subst ht; exact ho.2 b C _ fr hb (by decide) (by decide) (by decide) (by decide) (by decide) (by decide)
theorem told_othersD {W W' : World} {B n : Nat} {v : Value} {xs : List Value} (h : W.ownsRow B 48 3 v n xs) (ho : OthersD W W') : W'.ownsRow B 48 3 v n xs :=
  own_cells h fun b C t fr ht hb => by subst ht; exact ho.2 b C _ fr hb (by decide) (by decide) (by decide)
theorem Small.one {P : List Cg} (h : Small P) (ha : Asc P) {c : Cg} (hc : c.key.size + c.val.size ≤ 1048576) : Sized P [c] := by
  have hm : ∀ y ∈ allC P [c], y.key.size + y.val.size ≤ 1048576 := fun y hy => by
    rcases mem_allC [c] P ha y hy with h1 | ⟨d, hd, rfl⟩
    · exact h.s y h1
    · obtain rfl := List.mem_singleton.1 hd
      exact hc
  have hn := h.n
  have hl := allC_len [c] P
  have hb := chsB_top 1048576 (allC P [c]) hm
  have h3 : (allC P [c]).length * (17 + 1048576) ≤ 301 * (17 + 1048576) := Nat.mul_le_mul_right _ (by simp at hl; omega)
  have h4 := chB_top c
  refine ⟨?_, fun y hy => ?_, by simp only [List.length_singleton]; omega, by omega, fun y hy => Nat.le_trans (hm y hy) (by omega)⟩
  · rw [batB_length]
    unfold chsB
    simp
    omega
  · obtain rfl := List.mem_singleton.1 hy
    omega
/-- what Commit does to a store whose sectors hold its pairs -/
theorem Commit_rep {w0 w : World} {sb cb g N T : Nat} {x : SS} {a en cn : Nat} {bs : List (List Cg)} (hx : SMem w0 w sb cb g x) (hr : Rep N T x a en cn bs) (hN : 4 ≤ N) (hT : T < 4611686018427387904) (l : List Cg) (hs : Sized x.P l) (A : Option Addr) (n c : Nat) (hl : HC w A n c l) :
    Calls Try.prog 13 #[.pointer (some ⟨sb, 0, none⟩), .slice A n c] w fun e w' =>
      (e = .returned (.int .i64 0) ∧ (fitsB N en (batB l).length ∨ fitsB N 0 (batB (allC x.P l)).length) ∧ ∃ x' a' en' cn' bs', SMem w0 w' sb cb g x' ∧ Rep N (T + 1) x' a' en' cn' bs' ∧ x'.P = allC x.P l ∧ OthersS w w') ∨
      (e = .returned (.int .i64 51) ∧ SMem w0 w' sb cb g x ∧ OthersS w w') := by
  have hi := hr.inv
  have h := Commit_any w0 w sb cb g x a en cn l hx (hi.cmOk hN hs) hi.st A n c hl
  by_cases hf : fitsB N en (batB l).length ∨ fitsB N 0 (batB (allC x.P l)).length
  · obtain ⟨e0, hP, _⟩ := hi.commit hN hT l hf
    obtain ⟨a', en', cn', bs', hr'⟩ := hr.commit hN hT l hf
    refine h.mono ?_
    rintro e w' ⟨rfl, hm, ho⟩
    exact .inl ⟨by rw [e0], hf, _, a', en', cn', bs', hm, hr', hP, ho⟩
  · obtain ⟨e0, hX⟩ := hi.refused l (fun h => hf (.inl h)) (fun h => hf (.inr h))
    refine h.mono ?_
    rintro e w' ⟨rfl, hm, ho⟩
    exact .inr ⟨by rw [e0], by rw [hX] at hm; exact hm, ho⟩
/-- the first Commit: whatever it answers -/
theorem Commit_first {w0 w : World} {sb cb g N : Nat} (hx : SMem w0 w sb cb g (newX N)) (hN : 4 ≤ N) (hN2 : N ≤ 65536) (l : List Cg) (hs : Small l) (A : Option Addr) (n c : Nat) (hl : HC w A n c l) :
    Calls Try.prog 13 #[.pointer (some ⟨sb, 0, none⟩), .slice A n c] w fun e w' =>
      ∃ er x' T a en cn bs, e = .returned (.int .i64 er) ∧ SMem w0 w' sb cb g x' ∧ Rep N T x' a en cn bs ∧ T ≤ 1 ∧ Small x'.P ∧ OthersS w w' := by
  refine (Commit_rep hx (Rep.new hN hN2) hN (by omega) l hs.sized A n c hl).mono ?_
  rintro e w' (⟨rfl, _, x', a', en', cn', bs', h1, h2, h3, h4⟩ | ⟨rfl, h1, h4⟩)
  · exact ⟨0, x', 1, a', en', cn', bs', rfl, h1, h2, Nat.le_refl _, by rw [h3]; exact hs.all, h4⟩
  · exact ⟨51, newX N, 0, 0, 0, 0, [], rfl, h1, Rep.new hN hN2, by omega, ⟨Nat.zero_le _, fun y hy => by cases hy⟩, h4⟩
/-- the pair that may be too great -/
def zzC (n : Nat) : Cg := ⟨⟨#[122, 122]⟩, ⟨(List.replicate n (0 : UInt8)).toArray⟩, false⟩
theorem zz_size (n : Nat) : (zzC n).key.size = 2 ∧ (zzC n).val.size = n := by
  refine ⟨rfl, ?_⟩
  show ((List.replicate n (0 : UInt8)).toArray).size = n
  simp
theorem zz_chB (n : Nat) : n ≤ (chB (zzC n)).length := by
  have h1 := chB_has (zzC n) rfl
  have h2 := zz_size n
  omega
theorem zz_in {P : List Cg} (ha : Asc P) (n : Nat) : zzC n ∈ allC P [zzC n] := by
  have h := (doGo_spec (bare (zzC n)) P (zzC n).gone ha).2.2 (ky (bare (zzC n)))
  rw [if_pos rfl] at h
  have h2 : (doC P (zzC n)).find? (hasKey (ky (bare (zzC n)))) = some (zzC n) := h
  exact List.mem_of_find?_eq_some h2
theorem zz_no {P : List Cg} (ha : Asc P) {N en n : Nat} (h : 64 * N < n) : ¬ (fitsB N en (batB [zzC n]).length ∨ fitsB N 0 (batB (allC P [zzC n])).length) := by
  have h1 := zz_chB n
  have h2 := mem_chsB (allC P [zzC n]) _ (zz_in ha n)
  have h3 := mem_chsB [zzC n] _ (List.mem_singleton.2 rfl)
  have h4 : hlf N ≤ N := by unfold hlf; omega
  unfold fitsB
  rw [batB_length, batB_length]
  omega
theorem made_zero (n : Nat) : (madeCells (Value.int .u8 0).cells (n * 1)).toList = bv (List.replicate n 0) := by
  rw [bv_rep]
  unfold madeCells
  apply List.ext_getElem?
  intro i
  simp only [Array.toList_map, Array.toList_range, List.getElem?_map, List.getElem?_replicate, Nat.mul_one]
  by_cases hi : i < n
  · rw [List.getElem?_range hi, if_pos hi, Option.map_some]
    simp [Value.cells, Nat.mod_one]
  · rw [List.getElem?_eq_none (by simpa using hi), if_neg hi]
    rfl
def zeroC (n : Nat) : Array Value := (bv (List.replicate n 0)).toArray
theorem make_zeros (n : Nat) (w : World) (hn : n ≤ 140737488355328) : (Instr.makeSlice 43 (.int .i64 (n : Int)) (.int .i64 (n : Int))).run Try.prog w = .ok (.slice (some ⟨w.heap.size, 0, none⟩) n n) (w.alloc (.cells (zeroC n) 5)) := by
  obtain ⟨i0, hi0, hz0, hz1, hz2⟩ := info_parts Try.info5
  have h := run_make (P := Try.prog) w 43 5 i0 _ Try.underlying43 hi0 hz0 .i64 .i64 (n : Int) (n : Int) (by omega) (Int.le_refl _) (by rw [hz2]; omega) (by omega)
  have e : madeCells (Value.int .u8 0).cells (n * 1) = zeroC n := by
    unfold zeroC
    rw [← made_zero n]
  rw [hz1, Int.toNat_natCast, e] at h
  exact h
theorem Hold.zeros (w : World) (n k : Nat) (hk : k = w.heap.size) : Hold (w.alloc (.cells (zeroC n) 5)) (some ⟨k, 0, none⟩) n n (List.replicate n 0) := by
  have := Hold.new w (List.replicate n 0) 5 (0, 0) k hk
  rw [List.length_replicate] at this
  exact this

/-- a new row of noughts as a text -/
theorem zero_conv (W : World) (n : Nat) : (convert 43 9 (.slice (some ⟨W.heap.size, 0, none⟩) n n)).run Try.prog (W.alloc (.cells (zeroC n) 5)) = .ok (.string (zzC n).val) (W.alloc (.cells (zeroC n) 5)) := conv_hold (Hold.zeros W n _ rfl)
end Go.Proofs.Ytbfhlleipeipbaa

/- What is proved: the walk of StoreFull: it answers true, and turns nothing that was there. Conditions: each change's texts have at most 1048576 bytes together. -/
namespace Go.Proofs.Ytbfhlleipeipbaa
open Go.RowKit Go.Lib Go.Sort

set_option maxRecDepth 100000 in
set_option maxHeartbeats 4000000 in
theorem full_walk (m : Nat) (hm : m < 256) (A : Option Addr) (n c : Nat) (l : List Cg) (z : Int) (w : World) (hl : HC w A n c l) (hsm : ∀ y ∈ l, y.key.size + y.val.size ≤ 1048576) : Calls Try.prog 6 #[.int .u8 (m : Int), .slice A n c, .int .i64 z] w fun e w' => e = .returned (.bool true) ∧ Below w.heap.size w w' := by
  obtain ⟨N, hNe⟩ : ∃ N : Nat, N = 4 + m % 12 := ⟨_, rfl⟩
  have hN4 : 4 ≤ N := by omega
  have hN15 : N ≤ 15 := by omega
  have hNz : 4 + (m : Int) % 12 = (N : Int) := by omega
  have hNN : newN (N : Int) = N := by unfold newN; omega
  have hnm := new_mine w w (N : Int) (Below.refl _ _)
  rw [hNN] at hnm
  have HN := Lib.hid hnm
  have HL := Lib.hid hl
  have HSM := Lib.hid hsm
  have hln := Lib.hid hl.1
  clear hl hsm hnm hNN hNe
  go_enter Try.func6, Try.ntmps6
  go_wp2_with fail
  refine HN.out.mono ?_
  rintro e1 w1 ⟨g, rfl, hm1, hb1, hg1⟩
  have HO := Lib.hid (open_new hm1 hN4)
  clear hm1 hb1 HN
  go_wp2_with (go_at_call 9; refine HO.out.mono ?_; rintro e2 w2 ⟨sb, cb, rfl, hx2, ho2, hsb⟩; have HX2 := Lib.hid hx2; clear hx2 ho2 HO)
  refine (awake_any w2).mono ?_
  rintro e3 w3 ⟨rfl, hb3⟩
  have HX3 := Lib.hid (HX2.out.below hb3)
  clear hb3 HX2
  by_cases hz0 : z < 0
  · go_wp2_with (go_at_call 10; refine (awake_any _).mono ?_; rintro e w' ⟨rfl, hb⟩; have HX4 := Lib.hid (HX3.out.below hb); clear hb)
    go_ret
    exact ⟨rfl, HX4.out.b⟩
  by_cases hz1 : z > 5000
  · go_wp2_with (go_at_call 10; refine (awake_any _).mono ?_; rintro e w' ⟨rfl, hb⟩; have HX4 := Lib.hid (HX3.out.below hb); clear hb)
    go_ret
    exact ⟨rfl, HX4.out.b⟩
  obtain ⟨k, rfl⟩ := Int.eq_ofNat_of_zero_le (show 0 ≤ z by omega)
  have hk : k ≤ 5000 := by omega
  by_cases hfew : n ≤ 300
  rotate_left
  · have hd := decide_eq_false hfew
    go_wp2_with (first
      | (go_at_call 11; refine (few_any A n c _).mono ?_; rintro e w' ⟨rfl, rfl⟩; rw [hd])
      | (go_at_call 10; refine (awake_any _).mono ?_; rintro e w' ⟨rfl, hb⟩; have HX4 := Lib.hid (HX3.out.below hb); clear hb))
    go_ret
    exact ⟨rfl, HX4.out.b⟩
  have hd := decide_eq_true hfew
  have HSL : Hid (Small l) := Lib.hid ⟨by rw [hln.out]; exact hfew, HSM.out⟩
  have HBT := Lib.hid (batch_any A n c l w3 (HL.out.below HX3.out.b) (by omega))
  go_wp2_with (first
    | (go_at_call 11; refine (few_any A n c _).mono ?_; rintro e w' ⟨rfl, rfl⟩; rw [hd])
    | (go_at_call 14; refine HBT.out.mono ?_; rintro e4 w4 ⟨A5, n5, c5, rfl, ho4, hb4⟩; have HR4 := Lib.hid ho4; have HX4 := Lib.hid (HX3.out.below hb4); clear ho4 hb4))
  have HCM := Lib.hid (Commit_first HX4.out hN4 (by omega) l HSL.out A5 n5 c5 (own_hc HR4.out).1)
  refine HCM.out.mono ?_
  rintro e5 w5 ⟨er, x, T, a, en, cn, bs, rfl, hx5, hr5, hT, hsP, _⟩
  have HX5 := Lib.hid hx5
  have HR := Lib.hid hr5
  have HSP := Lib.hid hsP
  have HASC := Lib.hid hr5.inv.asc
  have hP300 := hsP.n
  clear hx5 hr5 hsP HCM HX4 HR4 HBT HX3
  have hl40 : x.P.length * 40 ≤ 140737488355328 := by omega
  have HPR := Lib.hid (pairs_any w w5 sb cb g x HX5.out HASC.out hl40)
  have hzc := fun W => zero_conv W k
  have hmk := fun W => make_zeros k W (by omega)
  have HSZ := Lib.hid (HSP.out.one HASC.out (c := zzC k) (by have := zz_size k; omega))
  go_wp2_with (go_at_call 17; refine HPR.out.mono ?_; rintro e6 w6 ⟨A6, n6, c6, rfl, ho6, hb6⟩; have HW6 := Lib.hid ho6; have HX6 := Lib.hid (HX5.out.below hb6); clear ho6 hb6 HX5 HPR)
  have HHC := Lib.hid (HC.newG (w6.alloc (.cells (zeroC k) 5)) [zzC k] #[.string ⟨#[122, 122]⟩, .string (zzC k).val, .bool false] rfl 52 (w6.heap.size + 1) 1 (by simp) rfl)
  have hal1 : Below w6.heap.size w6 (w6.alloc (.cells (zeroC k) 5)) := (Below.refl _ _).alloc (Nat.le_refl _) _
  have hal : Below w6.heap.size w6 ((w6.alloc (.cells (zeroC k) 5)).alloc (.cells #[.string ⟨#[122, 122]⟩, .string (zzC k).val, .bool false] 52)) := hal1.alloc hal1.size _
  have HX7 := Lib.hid (HX6.out.below hal)
  have HW7 := Lib.hid (own_belowG HW6.out hal)
  clear hal hal1 HX6 HW6
  generalize (w6.alloc (.cells (zeroC k) 5)).alloc (.cells #[.string ⟨#[122, 122]⟩, .string (zzC k).val, .bool false] 52) = w7 at *
  have HC2 := Lib.hid (Commit_rep HX7.out HR.out hN4 (by omega) [zzC k] HSZ.out _ _ _ HHC.out)
  refine HC2.out.mono ?_
  rintro e8 w8 (⟨rfl, hf8, x', a', en', cn', bs', hx8, _, _, _⟩ | ⟨rfl, hx8, ho8⟩)
  · have hsmall : ¬ (k : Int) > 64 * (N : Int) := fun h => zz_no HASC.out (by omega) hf8
    have HX8 := Lib.hid hx8
    clear hf8 hx8 HC2 HX7 HW7 HHC
    go_wp2_with fail
    go_ret
    exact ⟨rfl, HX8.out.b⟩
  · have HX8 := Lib.hid hx8
    have HW8 := Lib.hid (told_othersS HW7.out ho8)
    have HPR := Lib.hid (pairs_any w w8 sb cb g x HX8.out HASC.out hl40)
    have hn6 : n6 * 40 ≤ 140737488355328 := by have := (own_hcG HW8.out).1.1; omega
    obtain ⟨hok, hup, hlN, hbu⟩ := HR.out.opOk 0 0
    have HOK := Lib.hid hok
    have HALL := Lib.hid HR.out.all
    have HBUF := Lib.hid (show x.d.buf.length ≤ 4611686018427387904 by rw [HR.out.inv.buf]; exact Nat.zero_le _)
    have HUP := Lib.hid (And.intro hup (And.intro (show 4 ≤ (x.d.cSt 0 0).last.length by rw [hlN]; exact hN4) (show (x.d.cSt 0 0).buf.length ≤ 1099511627776 by rw [hbu]; exact Nat.zero_le _)))
    clear hok hup hlN hbu hx8 ho8 HC2 HX7 HW7 HHC
    go_wp2_with (first
      | (go_at_call 17; (with_reducible refine HPR.out.mono ?_); rintro e9 w9 ⟨A9, n9, c9, rfl, ho9, hb9⟩; have HP9 := Lib.hid (own_hcG ho9).1; have HW9 := Lib.hid (own_belowG HW8.out hb9); have HX9 := Lib.hid (HX8.out.below hb9); have hn9 : n9 * 40 ≤ 140737488355328 := (by have := HP9.out.1; rw [← this]; exact hl40); clear ho9 hb9 HPR HX8 HW8)
      | (go_at_call 16; (with_reducible refine (Same_any w9 A9 A6 n9 c9 n6 c6 x.P x.P HP9.out (own_hcG HW9.out).1 hn9).mono ?_); rintro e10 w10 ⟨rfl, hb10⟩; rw [sameL_self]; have HW10 := Lib.hid (own_belowG HW9.out hb10); have HX10 := Lib.hid (HX9.out.below hb10); clear hb10 HX9 HW9)
      | (go_at_call 18; refine (crash_mine HX10.out.m 0 0 HBUF.out).mono ?_; rintro e11 w11 ⟨rfl, hm11, ho11⟩; have HM11 := Lib.hid hm11; have HW11 := Lib.hid (told_othersD HW10.out ho11); clear hm11 ho11 HX10 HW10))
    all_goals
      have HOP := Lib.hid (open_any w w11 g (x.d.cSt 0 0) HM11.out HUP.out.1 HUP.out.2.1 HUP.out.2.2 a bs HOK.out)
      refine HOP.out.mono ?_
      rintro e12 w12 ⟨sb2, cb2, rfl, hx12, ho12, _⟩
      rw [HALL.out] at hx12
      have HX12 := Lib.hid hx12
      have HW12 := Lib.hid (told_othersD HW11.out ho12)
      have HPR2 := Lib.hid (pairs_any w w12 sb2 cb2 g _ HX12.out HASC.out hl40)
      clear hx12 ho12 HOP HM11 HW11
      go_wp2_with (first
        | (go_at_call 17; (with_reducible refine HPR2.out.mono ?_); rintro e13 w13 ⟨A13, n13, c13, rfl, ho13, hb13⟩; have HP13 := Lib.hid (own_hcG ho13).1; have HW13 := Lib.hid (own_belowG HW12.out hb13); have HX13 := Lib.hid (HX12.out.below hb13); have hn13 : n13 * 40 ≤ 140737488355328 := (by have := HP13.out.1; rw [← this]; exact hl40); clear ho13 hb13 HPR2 HX12 HW12)
        | (go_at_call 16; (with_reducible refine (Same_any w13 A13 A6 n13 c13 n6 c6 x.P x.P HP13.out (own_hcG HW13.out).1 hn13).mono ?_); rintro e14 w14 ⟨rfl, hb14⟩; rw [sameL_self]; have HX14 := Lib.hid (HX13.out.below hb14); clear hb14 HX13))
      go_ret
      exact ⟨by simp, HX14.out.b⟩
end Go.Proofs.Ytbfhlleipeipbaa
