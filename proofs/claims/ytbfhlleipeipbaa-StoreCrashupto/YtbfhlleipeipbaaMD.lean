/-
  What is proved: the texts Ka, Kb, Kp, Fa, Jq, Jh, Rp, Ff, Rx, Ry, Rz, Rv, Rw, Xa, Xb, Xc, Xd, Xo, Xw in one: what each proves stands ahead of it. Conditions: those in each statement.
-/
import Derived.Test.YtbfhlleipeipbaaM7
import Derived.Test.YtbfhlleipeipbaaOpen
import Derived.Deep.SlicePairs
import Derived.Test.YtbfhlleipeipbaaJl
/- What is proved: what a batch of at most 300 changes of at most 1048576 bytes each asks for; what a store keeps where a row of another's is changed. Conditions: those in each statement. -/
namespace Go.Proofs.Ytbfhlleipeipbaa
open Go.RowKit Go.Lib Go.Sort

theorem mem_allC : ∀ (b l : List Cg), Asc l → ∀ z ∈ allC l b, z ∈ l ∨ ∃ c ∈ b, z = bare c
  | [], l, _, z, hz => .inl hz
  | c :: b, l, hl, z, hz => by
    obtain ⟨h1, h2, _⟩ := doGo_spec (bare c) l c.gone hl
    have hz' : z ∈ allC (doC l c) b := hz
    rcases mem_allC b (doC l c) h1 z hz' with h | ⟨d, hd, e⟩
    · rcases h2 z h with ⟨_, e⟩ | h
      · exact .inr ⟨c, List.mem_cons_self .., e⟩
      · exact .inl h
    · exact .inr ⟨d, List.mem_cons_of_mem _ hd, e⟩
theorem allC_len : ∀ (b l : List Cg), (allC l b).length ≤ l.length + b.length
  | [], l => by simp [allC]
  | c :: b, l => by
    have h1 := allC_len b (doC l c)
    have h2 := doC_len l c
    have e : allC l (c :: b) = allC (doC l c) b := rfl
    rw [e, List.length_cons]
    omega
theorem chB_top (c : Cg) : (chB c).length ≤ 17 + (c.key.size + c.val.size) := by
  unfold chB txB
  have e1 : (ky c).length = c.key.size := size_toList _
  have e2 : (vl c).length = c.val.size := size_toList _
  split
  · simp only [List.length_append, dig_length, e1]
    simp
    omega
  · simp only [List.length_append, dig_length, e1, e2]
    simp
    omega
theorem chsB_top (M : Nat) : ∀ l : List Cg, (∀ y ∈ l, y.key.size + y.val.size ≤ M) → (chsB l).length ≤ l.length * (17 + M)
  | [], _ => by simp [chsB]
  | c :: l, h => by
    have h1 := chsB_top M l (fun y hy => h y (List.mem_cons_of_mem _ hy))
    have h2 := chB_top c
    have h3 := h c (List.mem_cons_self ..)
    rw [chsB_cons, List.length_append, List.length_cons, Nat.succ_mul]
    omega
/-- what the laws' batches are -/
structure Small (l : List Cg) : Prop where
  n : l.length ≤ 300
  s : ∀ y ∈ l, y.key.size + y.val.size ≤ 1048576
theorem Small.all {l : List Cg} (h : Small l) : Small (allC [] l) :=
  ⟨Nat.le_trans (allC_len l []) (by simpa using h.n), fun y hy => by
    rcases mem_allC l [] List.Pairwise.nil y hy with h1 | ⟨c, hc, rfl⟩
    · cases h1
    · exact h.s c hc⟩
theorem Small.len {l : List Cg} (h : Small l) : (chsB l).length ≤ 314577900 := by
  have h1 := chsB_top 1048576 l h.s
  have h2 := h.n
  have : l.length * (17 + 1048576) ≤ 300 * (17 + 1048576) := Nat.mul_le_mul_right _ h2
  omega
theorem Small.sized {l : List Cg} (h : Small l) : Sized [] l :=
  ⟨by rw [batB_length]; have := h.len; omega, fun y hy => Nat.le_trans (h.s y hy) (by omega), by have := h.n; simp only [List.length_nil]; omega, by have := h.all.len; omega, fun y hy => Nat.le_trans (h.all.s y hy) (by omega)⟩
/-- what Commit does to a store on a new disk, where there is room, and where there is none -/
theorem Commit_new_disk {w0 w : World} {sb cb g N : Nat} (hx : SMem w0 w sb cb g (newX N)) (hN : 4 ≤ N) (l : List Cg) (hs : Small l) (A : Option Addr) (n c : Nat) (hl : HC w A n c l) :
    Calls Try.prog 13 #[.pointer (some ⟨sb, 0, none⟩), .slice A n c] w fun e w' =>
      (e = .returned (.int .i64 0) ∧ ∃ x' a' en' cn', SMem w0 w' sb cb g x' ∧ Inv N 1 x' a' en' cn' ∧ x'.P = allC [] l ∧ OthersS w w' ∧ ∃ A n c, w'.cell? ⟨sb, 17, none⟩ = some (.slice A n c) ∧ w'.ownsRow w.heap.size 52 3 (.slice A n c) n (chV x'.P)) ∨
      (e = .returned (.int .i64 51) ∧ SMem w0 w' sb cb g (newX N) ∧ OthersS w w' ∧ ¬ fitsB N 0 (batB l).length ∧ ¬ fitsB N 0 (batB (allC [] l)).length) := by
  have hi := newX_inv (N := N) hN
  have ok := hi.cmOk hN (l := l) hs.sized
  have h := Commit_new w0 w sb cb g (newX N) 0 0 0 l hx ok rfl A n c hl
  by_cases hf : fitsB N 0 (batB l).length ∨ fitsB N 0 (batB (allC [] l)).length
  · obtain ⟨e0, hP, a', en', cn', hi'⟩ := hi.commit hN (by omega) l hf
    refine h.mono ?_
    rintro e w' ⟨rfl, hm, ho, hn⟩
    exact .inl ⟨by rw [e0], _, a', en', cn', hm, hi', hP, ho, hn e0⟩
  · obtain ⟨e0, hX⟩ := hi.refused l (fun h => hf (.inl h)) (fun h => hf (.inr h))
    refine h.mono ?_
    rintro e w' ⟨rfl, hm, ho, _⟩
    exact .inr ⟨by rw [e0], by rw [hX] at hm; exact hm, ho, fun h => hf (.inl h), fun h => hf (.inr h)⟩
/-- the pairs lie elsewhere than that row -/
def Apart (W : World) (sb : Nat) (v : Value) : Prop := ∃ A n c, W.cell? ⟨sb, 17, none⟩ = some (.slice A n c) ∧ ∀ q, v.ownBlock = some q → (Value.slice A n c).ownBlock ≠ some q
theorem SMem.chg52 {w0 W W' : World} {sb cb g q : Nat} {x : SS} {C : Array Value} {fr : Nat × Nat} (h : SMem w0 W sb cb g x) (hx : W.heap[q]? = some (.cells C 52 fr)) (hc : Chg (fun b => b = q) W W') (h0 : w0.heap.size ≤ q) {v : Value} (hv : v.ownBlock = some q) (ha : Apart W sb v) : SMem w0 W' sb cb g x ∧ Apart W' sb v := by
  have k : ∀ (b : Nat) (C' : Array Value) (t' : TypeId) (fr' : Nat × Nat), W.heap[b]? = some (.cells C' t' fr') → t' ≠ 52 → W'.heap[b]? = some (.cells C' t' fr') := fun b C' t' fr' hb' hne => (hc.block b (Array.getElem?_eq_some_iff.1 hb').1 (tag_ne hb' hx hne)).trans hb'
  obtain ⟨A, n, c, hs, hp⟩ := h.ex
  obtain ⟨A2, n2, c2, h17, hne⟩ := ha
  have e17 := hs.cells.2.2.2.1.1
  rw [h17] at e17
  have e := Option.some.inj e17
  rw [← e] at hs hp
  have hs' := k sb _ 82 (0, 0) hs (by decide)
  refine ⟨⟨h.m.frame hc (fun b hb => by subst hb; exact h0) (fun b hb => by subst hb; exact ⟨_, _, _, hx, by decide, by decide, by decide⟩), k cb _ 101 (0, 0) h.cl (by decide), ⟨A2, n2, c2, hs', ?_⟩, h.lo⟩, ⟨A2, n2, c2, (StB.cells hs').2.2.2.1.1, hne⟩⟩
  have en : n2 = n := by injection e
  subst en
  refine ⟨hp.1, ?_⟩
  rcases hp.2 with e | ⟨q', cap, cur, hv', hb', hg, r⟩
  · exact .inl e
  · refine .inr ⟨q', cap, cur, hv', hb', ?_, r⟩
    have hq : q' ≠ q := fun e => hne q hv (by rw [hv', e]; rfl)
    exact (hc.block q' (Array.getElem?_eq_some_iff.1 hg).1 hq).trans hg
end Go.Proofs.Ytbfhlleipeipbaa

/- What is proved: what stays of a store, of a row and of pairs told, where another's row is changed. Conditions: those in each statement. -/
namespace Go.Proofs.Ytbfhlleipeipbaa
open Go.RowKit Go.Lib Go.Sort

/-- a store, and a row of changes of the law's own beside it -/
structure Rw (w : World) (B sb cb g : Nat) (x : SS) (v : Value) (n : Nat) (xs : List Value) (W : World) : Prop where
  sm : SMem w W sb cb g x
  row : W.ownsRow B 52 3 v n xs
  ap : Apart W sb v
  lo : w.heap.size ≤ B
theorem Rw.len {w W : World} {B sb cb g n : Nat} {x : SS} {v : Value} {xs : List Value} (h : Rw w B sb cb g x v n xs W) : xs.length = n * 3 := h.row.1
theorem Rw.at {w W : World} {B sb cb g n : Nat} {x : SS} {v : Value} {xs : List Value} (h : Rw w B sb cb g x v n xs W) (hn : 0 < n) : ∃ q cap, v = .slice (some ⟨q, 0, none⟩) n cap := by
  rcases h.row.2 with ⟨_, e⟩ | ⟨q, cap, cur, e, _⟩
  · have := h.len; omega
  · exact ⟨q, cap, e⟩
theorem Rw.cell {w W : World} {B sb cb g n q cap : Nat} {x : SS} {xs : List Value} (h : Rw w B sb cb g x (.slice (some ⟨q, 0, none⟩) n cap) n xs W) {i : Nat} (hi : i < n * 3) : W.cell? ⟨q, i, none⟩ = xs[i]? ∧ W.frozen? ⟨q, i, none⟩ = false :=
  ⟨h.row.cellAt i hi, h.row.frozenAt i⟩
theorem row_block {W : World} {B n q cap : Nat} {xs : List Value} (h : W.ownsRow B 52 3 (.slice (some ⟨q, 0, none⟩) n cap) n xs) : ∃ C, W.heap[q]? = some (.cells C 52 (0, 0)) := by
  rcases h.2 with ⟨e, _⟩ | ⟨q', cap', cur, e, _, hg, _⟩
  · cases e
  · simp at e
    obtain ⟨rfl, rfl⟩ := e
    exact ⟨cur, hg⟩
theorem Rw.set {w W : World} {B sb cb g n q cap : Nat} {x : SS} {xs : List Value} (h : Rw w B sb cb g x (.slice (some ⟨q, 0, none⟩) n cap) n xs W) (i : Nat) (u : Value) :
    Rw w B sb cb g x (.slice (some ⟨q, 0, none⟩) n cap) n (xs.set i u) (W.setCell ⟨q, i, none⟩ u) := by
  obtain ⟨C, hC⟩ := row_block h.row
  have hc : Chg (fun b => b = q) W (W.setCell ⟨q, i, none⟩ u) := (Chg.refl (fun b => b = q) W).setCell (p := ⟨q, i, none⟩) (.inl rfl) _
  have hlt := (h.row.lt q rfl).1
  obtain ⟨h1, h2⟩ := h.sm.chg52 hC hc (Nat.le_trans h.lo hlt) rfl h.ap
  exact ⟨h1, (h.row.stored i u).1, h2, h.lo⟩
theorem Rw.below {w W W' : World} {B sb cb g n : Nat} {x : SS} {v : Value} {xs : List Value} (h : Rw w B sb cb g x v n xs W) (hb : Below W.heap.size W W') : Rw w B sb cb g x v n xs W' := by
  refine ⟨h.sm.below hb, own_belowG h.row hb, ?_, h.lo⟩
  obtain ⟨A, m, c, h1, h2⟩ := h.ap
  exact ⟨A, m, c, cell_later hb h1, h2⟩
/-- pairs told, beside such a row -/
theorem told_set {W : World} {B B' n m q cap i : Nat} {v : Value} {xs ys : List Value} {u : Value} (h : W.ownsRow B 48 3 v m ys) (hr : W.ownsRow B' 52 3 (.slice (some ⟨q, 0, none⟩) n cap) n xs) : (W.setCell ⟨q, i, none⟩ u).ownsRow B 48 3 v m ys := by
  obtain ⟨C, hC⟩ := row_block hr
  refine h.kept (hr.stored i u).2 ?_
  rcases h.2 with ⟨rfl, _⟩ | ⟨g, cap', cur, rfl, _, hg, _⟩
  · exact .inl rfl
  · refine .inr fun e => ?_
    simp [Value.ownBlock] at e
    subst e
    rw [hC] at hg
    simp at hg
/-- a row that was told now lies elsewhere than the pairs -/
theorem Apart.new {w0 w W : World} {B sb cb g n : Nat} {x : SS} {v : Value} {xs : List Value} (hx : SMem w0 w sb cb g x) (hb : Below w.heap.size w W) (hr : W.ownsRow w.heap.size 52 3 v n xs) (hB : B = w.heap.size) (hlo : w0.heap.size ≤ w.heap.size) : Rw w0 B sb cb g x v n xs W := by
  subst hB
  refine ⟨hx.below hb, hr, ?_, hlo⟩
  obtain ⟨A, m, c, hs, hp⟩ := hx.ex
  refine ⟨A, m, c, cell_later hb hs.cells.2.2.2.1.1, fun q hq e => ?_⟩
  have h1 := (hr.lt q hq).1
  have h2 := (hp.lt q e).2
  omega
/-- a row that was there lies elsewhere than pairs that are new -/
theorem Apart.old {w0 w W : World} {B sb cb g n : Nat} {x : SS} {v : Value} {xs : List Value} (hx : SMem w0 W sb cb g x) (hr : W.ownsRow B 52 3 v n xs) (hlt : ∀ q, v.ownBlock = some q → q < w.heap.size) (hn : ∃ A n c, W.cell? ⟨sb, 17, none⟩ = some (.slice A n c) ∧ W.ownsRow w.heap.size 52 3 (.slice A n c) n (chV x.P)) (hlo : w0.heap.size ≤ B) : Rw w0 B sb cb g x v n xs W := by
  refine ⟨hx, hr, ?_, hlo⟩
  obtain ⟨A, m, c, h1, h2⟩ := hn
  refine ⟨A, m, c, h1, fun q hq e => ?_⟩
  have h3 := hlt q hq
  have h4 := (h2.lt q e).1
  omega
/-- the row is as it was from there on -/
def From (l : List Cg) (j : Nat) (xs : List Value) : Prop := ∀ i, j * 3 ≤ i → xs[i]? = (chV l)[i]?
theorem From.set {l : List Cg} {j i : Nat} {xs : List Value} (h : From l j xs) (hi : i < (j + 1) * 3) (u : Value) : From l (j + 1) (xs.set i u) := by
  intro k hk
  rw [List.getElem?_set_ne (by omega)]
  exact h k (by omega)
theorem From.three {l : List Cg} {j : Nat} {xs : List Value} (h : From l j xs) (hj : j < l.length) : xs[j * 3]? = some (.string l[j].key) ∧ xs[j * 3 + 1]? = some (.string l[j].val) ∧ xs[j * 3 + 2]? = some (.bool l[j].gone) := by
  refine ⟨(h _ (by omega)).trans ?_, (h _ (by omega)).trans ?_, (h _ (by omega)).trans ?_⟩
  · rw [show j * 3 = j * 3 + 0 by omega, chV_get l j 0 hj (by omega)]; rfl
  · rw [chV_get l j 1 hj (by omega)]; rfl
  · rw [chV_get l j 2 hj (by omega)]; rfl
end Go.Proofs.Ytbfhlleipeipbaa

/- What is proved: how a slice of changes that comes in reads, and what the bound on what comes in says of it. Conditions: those in each statement. -/
namespace Go.Proofs.Ytbfhlleipeipbaa
open Go.ChangeShapes Go.WideShapes Go.ChangeAt Go.RowKit Go.Lib Go.Sort

theorem okWide_spot {P : Program} {w : World} {r : Reach} {base : Nat} {t e : TypeId} {A : Option Addr} {n c : Nat} (ht : P.underlying t = some (.slice e)) (h : Value.okWide P w r base t (.slice A n c)) : A = none ∨ ∃ b o, A = some ⟨b, o, none⟩ := by
  cases A with
  | none => exact .inl rfl
  | some a =>
    simp only [Value.okWide, ht, Cell.okWide, Cell.ok] at h
    obtain ⟨b, o, s⟩ := a
    obtain rfl : s = none := h.2.2.2.1
    exact .inr ⟨b, o, rfl⟩
theorem three_of {α : Type} (l : List α) (h : l.length = 3) : ∃ a b c, l = [a, b, c] := by
  match l, h with
  | [a, b, c], _ => exact ⟨a, b, c, rfl⟩
theorem bulk_str {H : Type} (s : ByteArray) : Rows.uptoBulk (DataW.lit (H := H) (.string s.data.toList)) = s.size + 1 := bulk_string s
/-- one change, from its three cells -/
theorem open_ch {H : Type} {enc : TypeId × Value → H} {W : World} {n : Nat} {a : Addr} {cs : List Value} {x : DataW H × List MemPlace} (hc : W.cells? 0 a 3 = some cs) (h : DataW.trod enc Try.prog W 0 (fun _ => true) true n 48 cs = some x) :
    ∃ y : Cg, W.cell? a = some (.string y.key) ∧ W.cell? (a.add 1) = some (.string y.val) ∧ W.cell? (a.add 2) = some (.bool y.gone) ∧ y.key.size + y.val.size ≤ Rows.uptoBulk x.1 := by
  obtain ⟨_, hlen, hcell⟩ := World.cells?_some hc
  obtain ⟨xs, k, _, hx', _, hxl, hf⟩ := DataW.trod_struct Try.underlying48 h
  obtain ⟨v0, v1, v2, rfl⟩ := three_of cs hlen
  obtain ⟨y0, y1, y2, rfl⟩ := three_of xs (by simpa using hxl)
  have c9 : Try.prog.cellsOf 9 = 1 := by kernel_rfl
  have c4 : Try.prog.cellsOf 4 = 1 := by kernel_rfl
  have g0 := hf 0 _ rfl
  have g1 := hf 1 _ rfl
  have g2 := hf 2 _ rfl
  obtain ⟨a0, e0, z0, _⟩ := DataW.trod_string Try.underlying9 (x := y0) (by simpa [c9] using g0)
  obtain ⟨a1, e1, z1, _⟩ := DataW.trod_string Try.underlying9 (x := y1) (by simpa [c9] using g1)
  obtain ⟨a2, e2, z2⟩ := DataW.trod_bool Try.underlying4 (x := y2) (by simpa [c4] using g2)
  simp at e0 e1 e2
  subst e0 e1 e2 z0 z1 z2
  have q0 := hcell 0 (by omega)
  have q1 := hcell 1 (by omega)
  have q2 := hcell 2 (by omega)
  refine ⟨⟨a0, a1, a2⟩, by simpa [Addr.add] using q0, by simpa using q1, by simpa using q2, ?_⟩
  rw [hx']
  simp only [List.map_cons, List.map_nil, Rows.uptoBulk, Rows.uptoBulkAll]
  have h0 := bulk_str (H := H) a0
  have h1 := bulk_str (H := H) a1
  simp only [Rows.uptoBulk] at h0 h1
  omega
theorem bulk_each {H : Type} (D : Nat → DataW H) : ∀ (n i : Nat), i < n → Rows.uptoBulk (D i) ≤ Rows.uptoBulkAll ((List.range n).map D) := by
  intro n
  induction n with
  | zero => intro i hi; omega
  | succ n ih =>
    intro i hi
    have app : ∀ (l r : List (DataW H)), Rows.uptoBulkAll (l ++ r) = Rows.uptoBulkAll l + Rows.uptoBulkAll r := by
      intro l r
      induction l with
      | nil => simp [Rows.uptoBulkAll]
      | cons x l ih => simp only [List.cons_append, Rows.uptoBulkAll, ih]; omega
    rw [List.range_succ, List.map_append, app]
    simp only [List.map_cons, List.map_nil, Rows.uptoBulkAll]
    by_cases h : i = n
    · subst h; omega
    · have := ih i (by omega); omega
/-- a batch that comes in -/
theorem open_chs {H : Type} {enc : TypeId × Value → H} {W : World} {A : Option Addr} {N C : Nat} {d : DataW H} {p : List MemPlace} (hA : A = none ∨ ∃ b o, A = some ⟨b, o, none⟩) (h : DataW.Trod enc Try.prog W 0 (fun _ => true) true 31 (.slice A N C) d p)
    (hfz : ∀ b off, MemPlace.cell b off ∈ p → W.frozen? ⟨b, off, none⟩ = false) (hbu : Rows.uptoBulk d ≤ 1048576) :
    ∃ l : List Cg, HC W A N C l ∧ (∀ y ∈ l, y.key.size + y.val.size ≤ 1048576) ∧ N + 1 ≤ Rows.uptoBulk d := by
  obtain ⟨fuel, hf⟩ := h
  rcases Deep.open_slice Try.underlying31 hf with ⟨hcs, hx⟩ | ⟨x, n', c', m, n, D, Pl, hcs, _, hl, hm, hz, hx, hcell⟩
  · simp [Value.cells] at hcs
    obtain ⟨rfl, rfl, rfl⟩ := hcs
    have hd : d = .nil := by injection hx
    subst hd
    exact ⟨[], HC.nil _ _ (.inl rfl), by simp, by simp [Rows.uptoBulk]⟩
  · simp [Value.cells] at hcs
    obtain ⟨rfl, rfl, rfl⟩ := hcs
    simp only [if_true] at hz
    subst hz
    obtain ⟨b, off, rfl⟩ : ∃ b o, x = ⟨b, o, none⟩ := by
      rcases hA with e | ⟨b, o, e⟩
      · cases e
      · exact ⟨b, o, Option.some.inj e⟩
    have hd : d = .slice ((List.range N).map D) ((List.range (m - N)).map fun j => D (N + j)) := by injection hx
    have hp : p = MemPlace.row ⟨b, off, none⟩ (m * Try.prog.cellsOf 48) ++ (List.range m).flatMap Pl := by injection hx
    have hbu' := hbu
    rw [hd] at hbu'
    simp only [Rows.uptoBulk] at hbu'
    have ce : Try.prog.cellsOf 48 = 3 := by kernel_rfl
    have each : ∀ i, i < N → ∃ q : Cg, W.cell? ((⟨b, off, none⟩ : Addr).add (i * 3)) = some (.string q.key) ∧ W.cell? (((⟨b, off, none⟩ : Addr).add (i * 3)).add 1) = some (.string q.val) ∧ W.cell? (((⟨b, off, none⟩ : Addr).add (i * 3)).add 2) = some (.bool q.gone) ∧ q.key.size + q.val.size ≤ 1048576 := by
      intro i hi
      obtain ⟨cs', h1, h2⟩ := hcell i (by omega)
      rw [ce] at h1
      have hbi := bulk_each D N i hi
      obtain ⟨y, k0, k1, k2, k3⟩ := open_ch h1 h2
      refine ⟨y, k0, k1, k2, ?_⟩
      have k3' : y.key.size + y.val.size ≤ Rows.uptoBulk (D i) := k3
      omega
    obtain ⟨q, hq⟩ := Deep.choose_lt each
    have hbl := bulk_list ((List.range N).map D)
    refine ⟨(List.range N).map q, ⟨by simp, hl, fun hN => ⟨b, off, rfl, ?_, fun u hu => ?_⟩, .inr ⟨b, off, rfl⟩⟩, ?_, ?_⟩
    · have := (hq 0 hN).1
      exact World.block_lt_of_cell? W _ this
    · have hu' : u < ((List.range N).map q).length * 3 := by simpa using hu
      have hu2 : u < N * 3 := by simpa using hu
      rw [flatK_get3 _ u hu']
      refine ⟨?_, hfz b (off + u) ?_⟩
      · obtain ⟨i, t, ht, rfl⟩ : ∃ i t, t < 3 ∧ u = i * 3 + t := ⟨u / 3, u % 3, Nat.mod_lt _ (by omega), by omega⟩
        have hi : i < N := by omega
        obtain ⟨h0, h1, h2, _⟩ := hq i hi
        simp only [Addr.add_lit] at h0 h1 h2
        have hg := chV_get ((List.range N).map q) i t (by simpa using hi) ht
        have hl3 : i * 3 + t < (chV ((List.range N).map q)).length := by rw [chV_length]; simpa using hu2
        rw [List.getElem?_eq_getElem hl3] at hg
        have hgi : ((List.range N).map q)[i]'(by simpa using hi) = q i := by simp
        rw [hgi] at hg
        rw [← Nat.add_assoc]
        show W.cell? _ = some (id (chV ((List.range N).map q))[i * 3 + t])
        rw [id, hg]
        match t, ht with
        | 0, _ => exact h0
        | 1, _ => exact h1
        | 2, _ => exact h2
      · rw [hp]
        refine List.mem_append_left _ (List.mem_map.2 ⟨u, List.mem_range.2 ?_, rfl⟩)
        rw [ce]
        have : N * 3 ≤ m * 3 := Nat.mul_le_mul_right 3 hl
        omega
    · intro y hy
      obtain ⟨i, hi, rfl⟩ := List.mem_map.1 hy
      exact (hq i (List.mem_range.1 hi)).2.2.2
    · rw [hd]
      simp only [Rows.uptoBulk]
      simp at hbl
      omega
end Go.Proofs.Ytbfhlleipeipbaa

/- What is proved: contracts of the document's Int, Text, Bool and of its bytes of a batch: batB. Conditions: those in each statement. -/
namespace Go.Proofs.Ytbfhlleipeipbaa
open Go.RowKit

set_option maxHeartbeats 400000 in
theorem refInt_any (A : Option Addr) (n c : Nat) (l : List UInt8) (x : Int) (w : World) (h : Hold w A n c l) (hn : n ≤ 140737488355000) :
    Calls Try.prog 58 #[.slice A n c, .int .i64 x] w (NewRow w (l ++ dig x)) := by
  have H := Lib.hid h
  clear h
  go_enter Try.func58, Try.ntmps58
  go_wp2_with (first
    | (at_builtin; refine wpList_append_hold rfl (.tmp 6) (.tmp 7) rfl w.heap.size (.slice none 0 0) 0 [] rfl (World.ownsRow_nil _ _ _ _) A n c l rfl H.out (by omega) (Nat.le_refl _) ?_; intro A1 c1 w1 hown1 hgrow1; simp only [Nat.zero_add, List.nil_append] at hown1; have hb1 : Below w.heap.size w w1 := (Below.refl _ _).grown hgrow1 (Nat.le_refl _) (by simp [Value.ownBlock]))
    | (go_at_call 37; refine (digits_any x w1).mono ?_; rintro e w2 ⟨v2, rfl, hown2, hb2⟩; obtain ⟨A2, c2, hv2⟩ := own_form hown2; rw [hv2] at hown2 ⊢; clear hv2)
    | (at_builtin; refine wpList_append_hold rfl (.tmp 9) (.tmp 11) rfl w.heap.size (.slice A1 n c1) n l rfl (hown1.kept (row := none) ⟨hb2.os, hb2.tape, hb2.output, hb2.size, fun k hk _ => hb2.block k hk⟩ (by cases hv : (Value.slice A1 n c1).ownBlock <;> simp)) A2 8 c2 (dig x) rfl (Hold.of_own hown2) (by omega) (Nat.le_trans hb1.size hb2.size) ?_; intro A3 c3 w3 hown3 hgrow3))
  go_ret
  exact ⟨A3, _, c3, rfl, hown3, (hb1.trans (hb2.mono hb1.size)).grown hgrow3 (Nat.le_trans hb1.size hb2.size) (fun k hk => (hown1.lt k hk).1)⟩

set_option maxHeartbeats 400000 in
theorem refText_any (A : Option Addr) (n c : Nat) (l : List UInt8) (s : ByteArray) (w : World) (h : Hold w A n c l) (hn : n + s.size ≤ 140737488354000) :
    Calls Try.prog 38 #[.slice A n c, .string s] w (NewRow w (l ++ dig s.size ++ s.data.toList)) := by
  obtain ⟨i0, hi, hz0, hz1, hz2⟩ := info_parts Try.info5
  have H := Lib.hid h
  clear h
  go_enter Try.func38, Try.ntmps38
  go_wp2_with (first
    | (go_at_call 58; refine (refInt_any A n c l s.size w H.out (by omega)).mono ?_; rintro e w1 ⟨A1, n1, c1, rfl, hown1, hb1⟩; have hn1 : n1 ≤ n + 8 := (by have h1 := hown1.1; rw [bv_length, List.length_append, dig_length, H.out.len] at h1; omega))
    | (at_builtin; refine Lib.wpList_append_own_string _ rfl (.tmp 8) (.tmp 9) 43 9 rfl w.heap.size 5 i0 Try.underlying43 Try.underlying9 hi hz0 hz1 hz2 (.slice A1 n1 c1) n1 (bv (l ++ dig s.size)) rfl hown1 s rfl (by unfold maxLen; omega) (by omega) hb1.size ?_; intro v2 w2 hown2 hgrow2 _))
  obtain ⟨A2, c2, hv2⟩ := own_form hown2
  rw [bv_str, ← bv_append] at hown2
  rw [hv2] at hown2 ⊢
  go_wp2
  go_ret
  exact ⟨A2, _, c2, rfl, hown2, hb1.grown hgrow2 hb1.size (fun k hk => (hown1.lt k hk).1)⟩

set_option maxHeartbeats 400000 in
theorem refBool_any (A : Option Addr) (n c : Nat) (l : List UInt8) (x : Bool) (w : World) (h : Hold w A n c l) (hn : n ≤ 140737488354000) :
    Calls Try.prog 39 #[.slice A n c, .bool x] w (NewRow w (l ++ [if x then 1 else 0])) := by
  have H := Lib.hid h
  clear h
  cases x
  · go_enter Try.func39, Try.ntmps39
    go_wp2_with (first
      | (at_builtin; refine wpList_append_hold rfl (.tmp 6) (.tmp 7) rfl w.heap.size (.slice none 0 0) 0 [] rfl (World.ownsRow_nil _ _ _ _) A n c l rfl H.out (by omega) (Nat.le_refl _) ?_; intro A1 c1 w1 hown1 hgrow1; simp only [Nat.zero_add, List.nil_append] at hown1; have hb1 : Below w.heap.size w w1 := (Below.refl _ _).grown hgrow1 (Nat.le_refl _) (by simp [Value.ownBlock]))
      | (at_builtin; refine wpList_append_hold rfl (.tmp 13) (.tmp 14) rfl w.heap.size (.slice A1 n c1) n l rfl (hown1.alloc _) (some ⟨w1.heap.size, 0, none⟩) 1 1 [0] rfl (Hold.new w1 [0] 5 (0, 0) _ rfl) (by omega) (by have := hb1.size; simp; omega) ?_; intro A3 c3 w3 hown3 hgrow3))
    go_ret
    exact ⟨A3, _, c3, rfl, hown3, (hb1.alloc hb1.size _).grown hgrow3 (by have := hb1.size; simp; omega) (fun k hk => (hown1.lt k hk).1)⟩
  · go_enter Try.func39, Try.ntmps39
    go_wp2_with (first
      | (at_builtin; refine wpList_append_hold rfl (.tmp 6) (.tmp 7) rfl w.heap.size (.slice none 0 0) 0 [] rfl (World.ownsRow_nil _ _ _ _) A n c l rfl H.out (by omega) (Nat.le_refl _) ?_; intro A1 c1 w1 hown1 hgrow1; simp only [Nat.zero_add, List.nil_append] at hown1; have hb1 : Below w.heap.size w w1 := (Below.refl _ _).grown hgrow1 (Nat.le_refl _) (by simp [Value.ownBlock]))
      | (at_builtin; refine wpList_append_hold rfl (.tmp 10) (.tmp 11) rfl w.heap.size (.slice A1 n c1) n l rfl (hown1.alloc _) (some ⟨w1.heap.size, 0, none⟩) 1 1 [1] rfl (Hold.new w1 [1] 5 (0, 0) _ rfl) (by omega) (by have := hb1.size; simp; omega) ?_; intro A3 c3 w3 hown3 hgrow3))
    go_ret
    exact ⟨A3, _, c3, rfl, hown3, (hb1.alloc hb1.size _).grown hgrow3 (by have := hb1.size; simp; omega) (fun k hk => (hown1.lt k hk).1)⟩
theorem chsB_snoc (l : List Cg) (j : Nat) (h : j < l.length) : chsB (l.take (j + 1)) = chsB (l.take j) ++ chB l[j] := by
  rw [List.take_succ_eq_append_getElem h, chsB_append]
  congr 1
  unfold chsB
  simp
theorem chB_yes (k v : ByteArray) : chB ⟨k, v, true⟩ = (dig k.size ++ k.data.toList) ++ [1] := by
  unfold chB txB ky vl
  simp
theorem chB_no (k v : ByteArray) : chB ⟨k, v, false⟩ = ((dig k.size ++ k.data.toList) ++ [0]) ++ (dig v.size ++ v.data.toList) := by
  unfold chB txB ky vl
  simp
end Go.Proofs.Ytbfhlleipeipbaa

/- What is proved: plain facts on what an Append, whole or cut off, and a crash behind it, leave of a disk's bytes. No condition but those in each statement. -/
namespace Go.Proofs.Ytbfhlleipeipbaa
open Go.RowKit

/-! ### rows that are laid into a row -/
theorem splice_get {α : Type} (X v : List α) (o i : Nat) (h : o + v.length ≤ X.length) : (splice X o v)[i]? = if i < o then X[i]? else if i < o + v.length then v[i - o]? else X[i]? := by
  unfold splice
  by_cases h1 : i < o
  · rw [List.getElem?_append_left (by rw [List.length_take]; omega), List.getElem?_take, if_pos h1, if_pos h1]
  · have e : (X.take o).length = o := by rw [List.length_take]; omega
    rw [if_neg h1, List.getElem?_append_right (by omega), e]
    by_cases h2 : i < o + v.length
    · rw [if_pos h2, List.getElem?_append_left (by omega)]
    · rw [if_neg h2, List.getElem?_append_right (by omega), List.getElem?_drop]
      congr 1
      omega
theorem splice_splice {α : Type} (X v y : List α) (o : Nat) (h : o + v.length + y.length ≤ X.length) : splice (splice X o v) (o + v.length) y = splice X o (v ++ y) := by
  have hl : (splice X o v).length = X.length := length_splice X o v (by omega)
  apply List.ext_getElem?
  intro i
  rw [splice_get _ _ _ _ (by omega), splice_get _ _ _ _ (by omega), splice_get _ _ _ _ (by rw [List.length_append]; omega), List.length_append]
  by_cases h1 : i < o
  · rw [if_pos (by omega), if_pos h1, if_pos h1]
  · by_cases h2 : i < o + v.length
    · rw [if_pos h2, if_neg h1, if_pos h2, if_neg h1, if_pos (by omega), List.getElem?_append_left (by omega)]
    · rw [if_neg h2]
      by_cases h3 : i < o + v.length + y.length
      · rw [if_pos h3, if_neg h1, if_pos (by omega), List.getElem?_append_right (by omega)]
        congr 1
        omega
      · rw [if_neg h3, if_neg h1, if_neg h2, if_neg h1, if_neg (by omega)]
theorem splice_ahead {α : Type} (X v : List α) (o r : Nat) (h : o + v.length ≤ X.length) (hv : ∀ i, i < r → i < v.length → v[i]? = X[o + i]?) : (splice X o v).take (o + r) = X.take (o + r) := by
  apply List.ext_getElem?
  intro i
  rw [List.getElem?_take, List.getElem?_take]
  by_cases h1 : i < o + r
  · rw [if_pos h1, if_pos h1, splice_get _ _ _ _ h]
    by_cases h2 : i < o
    · rw [if_pos h2]
    · rw [if_neg h2]
      by_cases h3 : i < o + v.length
      · rw [if_pos h3, hv (i - o) (by omega) (by omega)]
        congr 1
        omega
      · rw [if_neg h3]
  · rw [if_neg h1, if_neg h1]

/-! ### sectors as one row of bytes -/
def D.flat (s : D) : List UInt8 := (settle s.last s.buf).flatten
theorem D.Ok.sets {s : D} (h : s.Ok) : ∀ l ∈ settle s.last s.buf, l.length = 64 := settle_sec _ _ h.sec fun p hp => (h.wr p hp).2
theorem D.Ok.flat_len {s : D} (h : s.Ok) : s.flat.length = 64 * s.last.length := by
  unfold D.flat
  rw [flat_length 64 _ h.sets, settle_length, Nat.mul_comm]
theorem flat_at {S : List (List UInt8)} (h : ∀ l ∈ S, l.length = 64) {k : Nat} (hk : k < S.length) : S[k]?.getD [] = (S.flatten.drop (64 * k)).take 64 := by
  rw [List.getElem?_eq_getElem hk, Option.getD_some]
  have hl := h _ (List.getElem_mem hk)
  apply List.ext_getElem?
  intro i
  rw [List.getElem?_take]
  by_cases hi : i < 64
  · rw [if_pos hi, List.getElem?_drop, Nat.mul_comm, flat_get 64 S h k i hk hi]
  · rw [if_neg hi, List.getElem?_eq_none (by omega)]
theorem D.Ok.told_flat {s : D} (h : s.Ok) {k : Nat} (hk : k < s.last.length) : s.told k = (s.flat.drop (64 * k)).take 64 := flat_at h.sets (by rw [settle_length]; exact hk)
theorem take_more {α : Type} (X : List α) (o a b : Nat) : (X.drop o).take (a + b) = (X.drop o).take a ++ (X.drop (o + a)).take b := by
  rw [List.take_add, List.drop_drop]
theorem D.Ok.bytes_flat {s : D} (h : s.Ok) (k : Nat) : ∀ N, k + N ≤ s.last.length → s.bytes k N = (s.flat.drop (64 * k)).take (64 * N)
  | 0, _ => by simp [D.bytes]
  | N + 1, hN => by
    rw [D.bytes_succ, h.bytes_flat k N (by omega), h.told_flat (by omega), Nat.mul_succ, take_more]
    congr 3
    omega
theorem D.Ok.area_flat {s : D} (h : s.Ok) {k n : Nat} (hN : k + (n + 63) / 64 ≤ s.last.length) : s.area k n = (s.flat.drop (64 * k)).take n := by
  unfold D.area
  rw [h.bytes_flat k _ hN, List.take_take]
  congr 1
  omega

/-! ### the writes of an Append -/
def wOf (k0 : Nat) (l : List UInt8) (i : Nat) : Nat × List UInt8 := (k0 + i, pad ((l.drop (64 * i)).take 64))
def wsOf (k0 : Nat) (l : List UInt8) (j : Nat) : List (Nat × List UInt8) := (List.range j).map (wOf k0 l)
theorem wsOf_succ (k0 : Nat) (l : List UInt8) (j : Nat) : wsOf k0 l (j + 1) = wsOf k0 l j ++ [wOf k0 l j] := by simp [wsOf, List.range_succ]
theorem wsOf_length (k0 : Nat) (l : List UInt8) (j : Nat) : (wsOf k0 l j).length = j := by simp [wsOf]
theorem wsOf_take (k0 : Nat) (l : List UInt8) (j p : Nat) (h : p ≤ j) : (wsOf k0 l j).take p = wsOf k0 l p := by
  unfold wsOf
  rw [← List.map_take]
  congr 1
  rw [List.take_range, Nat.min_eq_left h]
theorem wOf_len (k0 : Nat) (l : List UInt8) (i : Nat) : (wOf k0 l i).2.length = 64 := pad_length _ (by simp only [List.length_take]; omega)
theorem wrs_form {s : D} {k0 N : Nat} (l : List UInt8) (hin : k0 + N ≤ s.last.length) : ∀ k, k ≤ N → ∃ j lf, j ≤ k ∧ s.wrs k0 l k = ⟨s.last, s.buf ++ wsOf k0 l j, lf⟩ ∧ (lf ≠ 0 → j = k)
  | 0, _ => ⟨0, s.left, Nat.le_refl _, by simp [D.wrs, wsOf], fun _ => rfl⟩
  | k + 1, hk => by
    obtain ⟨j, lf, hj, e, hl⟩ := wrs_form l hin k (by omega)
    by_cases h0 : lf = 0
    · refine ⟨j, lf, by omega, ?_, fun h => absurd h0 h⟩
      show (s.wrs k0 l k).wSt _ _ = _
      rw [e]
      exact wSt_dead h0 _ _
    · obtain rfl := hl h0
      refine ⟨j + 1, tick lf, Nat.le_refl _, ?_, fun _ => rfl⟩
      show (s.wrs k0 l j).wSt _ _ = _
      rw [e, wSt_zero (by rw [refuse_in (by simp only; omega)]; exact if_neg h0) (by simp only [List.length_take]; omega), wsOf_succ, ← List.append_assoc]
      rfl
/-- the bytes that are written to the first j sectors -/
def PL (l : List UInt8) (j : Nat) : List UInt8 := ((List.range j).map fun i => pad ((l.drop (64 * i)).take 64)).flatten
theorem PL_succ (l : List UInt8) (j : Nat) : PL l (j + 1) = PL l j ++ pad ((l.drop (64 * j)).take 64) := by simp [PL, List.range_succ]
theorem PL_length (l : List UInt8) : ∀ j, (PL l j).length = 64 * j
  | 0 => rfl
  | j + 1 => by rw [PL_succ, List.length_append, PL_length l j, pad_length _ (by simp only [List.length_take]; omega)]; omega
theorem PL_take (l : List UInt8) : ∀ j q, q ≤ 64 * j → q ≤ l.length → (PL l j).take q = l.take q
  | 0, q, h, _ => by
    obtain rfl : q = 0 := by omega
    simp
  | j + 1, q, h, hl => by
    have e := PL_length l j
    rw [PL_succ]
    by_cases h1 : q ≤ 64 * j
    · rw [List.take_append_of_le_length (by omega), PL_take l j q h1 hl]
    · have ih := PL_take l j (64 * j) (Nat.le_refl _) (by omega)
      rw [List.take_of_length_le (by omega)] at ih
      rw [List.take_append, e, List.take_of_length_le (by omega), ih]
      unfold pad
      rw [List.take_append_of_le_length (by simp only [List.length_take, List.length_drop]; omega), List.take_take, Nat.min_eq_left (by omega)]
      have : l.take q = l.take (64 * j + (q - 64 * j)) := by congr 1; omega
      rw [this, List.take_add]
theorem PL_get (l : List UInt8) (j i : Nat) (h1 : i < 64 * j) (h2 : i < l.length) : (PL l j)[i]? = l[i]? := by
  have e := congrArg (·[i]?) (PL_take l j (i + 1) (by omega) (by omega))
  simp only [List.getElem?_take, if_pos (Nat.lt_succ_self i)] at e
  exact e
theorem settle_ws {S : List (List UInt8)} (hS : ∀ l ∈ S, l.length = 64) (k0 : Nat) (l : List UInt8) : ∀ j, k0 + j ≤ S.length → (∀ x ∈ settle S (wsOf k0 l j), x.length = 64) ∧ (settle S (wsOf k0 l j)).flatten = splice S.flatten (64 * k0) (PL l j)
  | 0, _ => ⟨hS, by simp [wsOf, settle, PL, splice]⟩
  | j + 1, hj => by
    obtain ⟨h1, h2⟩ := settle_ws hS k0 l j (by omega)
    have hl : (settle S (wsOf k0 l j)).length = S.length := settle_length _ _
    have hf := flat_length 64 S hS
    have hp : (pad ((l.drop (64 * j)).take 64)).length = 64 := pad_length _ (by simp only [List.length_take]; omega)
    have e := PL_length l j
    rw [wsOf_succ, settle_snoc]
    refine ⟨mem_set_len h1 _ _ (wOf_len k0 l j), ?_⟩
    show ((settle S (wsOf k0 l j)).set (k0 + j) (pad ((l.drop (64 * j)).take 64))).flatten = _
    rw [flat_set 64 _ h1 (k0 + j) (by omega) _ hp, h2, PL_succ, ← splice_splice _ _ _ _ (by omega), e]
    congr 1
    omega
/-- with the last one torn -/
theorem settle_torn {S : List (List UInt8)} (hS : ∀ l ∈ S, l.length = 64) (k0 : Nat) (l : List UInt8) (j t : Nat) (hj : k0 + j < S.length) (ht : t ≤ 64) :
    ((settle S (wsOf k0 l j)).set (k0 + j) (tear (wOf k0 l j).2 ((settle S (wsOf k0 l j))[k0 + j]?.getD []) t)).flatten = splice S.flatten (64 * k0) ((PL l (j + 1)).take (64 * j + t)) := by
  obtain ⟨h1, h2⟩ := settle_ws hS k0 l j (by omega)
  have hl : (settle S (wsOf k0 l j)).length = S.length := settle_length _ _
  have hf := flat_length 64 S hS
  have hf1 := flat_length 64 _ h1
  have hp : (pad ((l.drop (64 * j)).take 64)).length = 64 := pad_length _ (by simp only [List.length_take]; omega)
  have e := PL_length l j
  have ho : ((settle S (wsOf k0 l j))[k0 + j]?.getD []).length = 64 := getD_len h1 (by omega)
  have htl : (tear (wOf k0 l j).2 ((settle S (wsOf k0 l j))[k0 + j]?.getD []) t).length = 64 := by
    simp only [tear, List.length_append, List.length_take, List.length_drop, wOf_len, ho]
    omega
  rw [flat_set 64 _ h1 (k0 + j) (by omega) _ htl]
  unfold tear
  have htk : ((wOf k0 l j).2.take t).length = t := by rw [List.length_take, wOf_len]; omega
  rw [splice_part, h2]
  · have h3 : splice S.flatten (64 * k0) (PL l j ++ (wOf k0 l j).2.take t) = splice (splice S.flatten (64 * k0) (PL l j)) (64 * k0 + (PL l j).length) ((wOf k0 l j).2.take t) := (splice_splice _ _ _ _ (by omega)).symm
    have hT : (PL l (j + 1)).take (64 * j + t) = PL l j ++ (wOf k0 l j).2.take t := by
      rw [PL_succ, List.take_append, e, List.take_of_length_le (l := PL l j) (by omega), show 64 * j + t - 64 * j = t by omega]
      rfl
    rw [show (k0 + j) * 64 = 64 * k0 + (PL l j).length by rw [e]; omega, hT]
    exact h3.symm
  · rw [htk, flat_at h1 (by omega), List.drop_take, List.drop_drop, List.length_take, List.length_drop]
    have : min (64 - t) ((settle S (wsOf k0 l j)).flatten.length - (64 * (k0 + j) + t)) = 64 - t := by omega
    rw [this]
    congr 2
    omega

/-! ### what is ahead of a frame, and the frame -/
section
variable {s : D} {k0 r : Nat} {b : List UInt8}
theorem appL_len (h : s.Ok) (hk : k0 < s.last.length) (hr : r < 64) : (s.appL k0 r b).length = r + 16 + b.length := by
  unfold D.appL
  rw [List.length_append, List.length_take, h.told_len hk, frameOf_length]
  omega
theorem appL_ahead (h : s.Ok) (hk : k0 < s.last.length) (hr : r < 64) (hb : s.buf = []) (i : Nat) (hi : i < r) : (s.appL k0 r b)[i]? = s.last.flatten[64 * k0 + i]? := by
  have e : s.flat = s.last.flatten := by unfold D.flat; rw [hb]; rfl
  unfold D.appL
  rw [List.getElem?_append_left (by rw [List.length_take, h.told_len hk]; omega), List.getElem?_take, if_pos hi, h.told_flat hk, List.getElem?_take, if_pos (by omega), List.getElem?_drop, e]
/-- whatever part of what is written stands there: what was ahead is as it was -/
theorem ahead_part (h : s.Ok) (hr : r < 64) (hb : s.buf = []) {j q : Nat} (hin : k0 + j ≤ s.last.length) (hk : k0 < s.last.length) :
    (splice s.last.flatten (64 * k0) ((PL (s.appL k0 r b) j).take q)).take (64 * k0 + r) = s.last.flatten.take (64 * k0 + r) := by
  have e := PL_length (s.appL k0 r b) j
  have hf := flat_length 64 s.last h.sec
  have hl := appL_len (b := b) h hk hr
  refine splice_ahead _ _ _ _ (by rw [List.length_take]; omega) fun i hi hv => ?_
  rw [List.length_take] at hv
  rw [List.getElem?_take, if_pos (by omega), PL_get _ _ _ (by omega) (by omega)]
  exact appL_ahead h hk hr hb i hi
/-- all of it -/
theorem whole_part (h : s.Ok) (hr : r < 64) (hin : k0 + (r + 8 + 8 + b.length + 63) / 64 ≤ s.last.length) :
    ((splice s.last.flatten (64 * k0) (PL (s.appL k0 r b) ((r + 8 + 8 + b.length + 63) / 64))).drop (64 * k0 + r)).take (16 + b.length) = frameOf b := by
  have hk : k0 < s.last.length := by omega
  have e := PL_length (s.appL k0 r b) ((r + 8 + 8 + b.length + 63) / 64)
  have hf := flat_length 64 s.last h.sec
  have hl := appL_len (b := b) h hk hr
  have hfl := frameOf_length b
  apply List.ext_getElem?
  intro i
  rw [List.getElem?_take]
  by_cases hi : i < 16 + b.length
  · rw [if_pos hi, List.getElem?_drop, splice_get _ _ _ _ (by omega), if_neg (by omega), if_pos (by omega), PL_get _ _ _ (by omega) (by omega)]
    have ht : ((s.told k0).take r).length = r := by rw [List.length_take, h.told_len hk]; omega
    unfold D.appL
    rw [List.getElem?_append_right (by omega), ht]
    congr 1
    omega
  · rw [if_neg hi, List.getElem?_eq_none (by omega)]

/-- what Append leaves of a disk on which nothing waits: it answered OK, and the frame stands there; or not, and of a part of its writes nothing is flushed -/
theorem app_form (hin : k0 + (r + 8 + 8 + b.length + 63) / 64 ≤ s.last.length) (hb : s.buf = []) :
    ((s.appW k0 r b).fErr = 0 ∧ (s.appW k0 r b).fSt.buf = [] ∧ (s.appW k0 r b).fSt.last = settle s.last (wsOf k0 (s.appL k0 r b) ((r + 8 + 8 + b.length + 63) / 64))) ∨
    ((s.appW k0 r b).fErr = 32 ∧ ∃ j, j ≤ (r + 8 + 8 + b.length + 63) / 64 ∧ (s.appW k0 r b).fSt.buf = wsOf k0 (s.appL k0 r b) j ∧ (s.appW k0 r b).fSt.last = s.last) := by
  obtain ⟨j, lf, hj, e, hl⟩ := wrs_form (s := s) (k0 := k0) (s.appL k0 r b) hin _ (Nat.le_refl _)
  have e' : s.appW k0 r b = ⟨s.last, wsOf k0 (s.appL k0 r b) j, lf⟩ := by
    unfold D.appW
    rw [e, hb, List.nil_append]
  rw [e']
  by_cases h0 : lf = 0
  · refine .inr ⟨fErr_dead h0, j, hj, ?_, ?_⟩
    · rw [fSt_dead h0]
    · rw [fSt_dead h0]
  · obtain rfl := hl h0
    refine .inl ⟨?_, ?_, ?_⟩
    · unfold D.fErr; rw [if_neg h0]
    · unfold D.fSt; rw [if_neg h0]
    · unfold D.fSt; rw [if_neg h0]
end
end Go.Proofs.Ytbfhlleipeipbaa

/- What is proved: plain facts on a journal that has frames: what is told of it, behind an Append, behind one that is cut off, and behind a crash. No condition but those in each statement. -/
namespace Go.Proofs.Ytbfhlleipeipbaa
open Go.RowKit

structure Has (x : JS) (fs : List (List UInt8)) : Prop where
  ok : x.Ok
  dok : x.d.Ok
  area : x.d.area x.fr x.en = framesOf fs
  cn : x.cn = fs.length
  short : ∀ b ∈ fs, b.length ≤ 1048576
theorem Has.zero {s : D} (h : s.Ok) {fr tt : Nat} (h1 : fr ≤ tt) (h2 : tt ≤ s.last.length) : Has ⟨s, fr, tt, 0, 0⟩ [] :=
  ⟨⟨h1, h2, Nat.zero_le _, Nat.zero_le _⟩, h, by simp [D.area, framesOf], rfl, by simp⟩
theorem Has.split {x : JS} {fs : List (List UInt8)} (h : Has x fs) : splitOf (x.d.area x.fr x.en) = some fs := by
  rw [h.area]
  exact splitOf_frames fs fun b hb => Nat.le_trans (h.short b hb) (by decide)
/-- it is opened as it is -/
theorem Has.opens {x : JS} {fs : List (List UInt8)} (h : Has x fs) (hu : x.d.left ≠ 0) : x.d.openErr (x.fr : Int) (x.to : Int) (x.en : Int) (x.cn : Int) = 0 ∧ x.d.openFs (x.fr : Int) (x.en : Int) = fs := by
  obtain ⟨a1, a2, a3, a4⟩ := h.ok
  have hb : ¬ x.d.badArea (x.fr : Int) (x.to : Int) := by unfold D.badArea; omega
  refine ⟨?_, ?_⟩
  · unfold D.openErr
    rw [if_neg hb, if_neg (by omega), if_neg hu, Int.toNat_natCast, Int.toNat_natCast, h.split, if_pos]
    exact ⟨rfl, by rw [h.cn]; rfl⟩
  · unfold D.openFs
    rw [Int.toNat_natCast, Int.toNat_natCast, h.split]
    rfl
theorem JS.Ok.sectors {x : JS} (h : x.Ok) : x.fr + (x.en + 63) / 64 ≤ x.d.last.length := by
  obtain ⟨a1, a2, a3, a4⟩ := h
  omega
theorem cut_take {X Y : List UInt8} {o n : Nat} (h : X.take (o + n) = Y.take (o + n)) : (X.drop o).take n = (Y.drop o).take n := by
  have e : ∀ Z : List UInt8, (Z.drop o).take n = (Z.take (o + n)).drop o := fun Z => by rw [List.drop_take]; congr 1; omega
  rw [e X, e Y, h]
theorem flat_nobuf {s : D} (h : s.buf = []) : s.flat = s.last.flatten := by unfold D.flat; rw [h]; rfl
theorem cSt_flat (s : D) (k t : Int) : (s.cSt k t).flat = (s.cLast k t).flatten := rfl
theorem cLast_nobuf {s : D} (h : s.buf = []) (k t : Int) : s.cLast k t = s.last := by
  unfold D.cLast
  rw [h]
  simp [settle]
/-- a disk on which a part of an Append's writes waits, behind a crash -/
theorem cLast_part {s : D} {k0 j : Nat} {l : List UInt8} (hS : ∀ x ∈ s.last, x.length = 64) (hb : s.buf = wsOf k0 l j) (hin : k0 + j ≤ s.last.length) (k t : Int) : ∃ i q, i ≤ j ∧ (s.cLast k t).flatten = splice s.last.flatten (64 * k0) ((PL l i).take q) := by
  have hl : s.buf.length = j := by rw [hb, wsOf_length]
  unfold D.cLast
  rw [hl]
  have hp : clampN k j ≤ j := by unfold clampN; omega
  have ht : clampN t 64 ≤ 64 := by unfold clampN; omega
  generalize clampN k j = p at *
  generalize clampN t 64 = u at *
  rw [hb, wsOf_take _ _ _ _ hp]
  by_cases hpj : p < j
  · have e : (wsOf k0 l j)[p]? = some (wOf k0 l p) := by simp [wsOf, hpj]
    rw [e]
    exact ⟨p + 1, 64 * p + u, by omega, settle_torn hS k0 l p u (by omega) ht⟩
  · obtain rfl : p = j := by omega
    have e : (wsOf k0 l p)[p]? = none := by simp [wsOf]
    rw [e]
    refine ⟨p, 64 * p, Nat.le_refl _, ?_⟩
    rw [List.take_of_length_le (by rw [PL_length]; exact Nat.le_refl _)]
    exact (settle_ws hS k0 l p (by omega)).2

section
variable {x : JS} {fs : List (List UInt8)} {b : List UInt8}
theorem JS.Ok.place (h : x.Ok) (hf : x.en + 16 + b.length ≤ 64 * (x.to - x.fr)) : x.fr + x.en / 64 + (x.en % 64 + 8 + 8 + b.length + 63) / 64 ≤ x.d.last.length := by
  obtain ⟨a1, a2, a3, a4⟩ := h
  omega
/-- the frames are there, if what is ahead of the end is as it was -/
theorem Has.keep (h : Has x fs) {d : D} (hd : d.Ok) (hl : d.last.length = x.d.last.length) (hF : d.flat.take (64 * x.fr + x.en) = x.d.flat.take (64 * x.fr + x.en)) : Has ⟨d, x.fr, x.to, x.en, x.cn⟩ fs := by
  have hs := h.ok.sectors
  obtain ⟨a1, a2, a3, a4⟩ := h.ok
  refine ⟨⟨a1, by simp only; omega, a3, a4⟩, hd, ?_, h.cn, h.short⟩
  show d.area x.fr x.en = _
  rw [hd.area_flat (by omega), cut_take hF, ← h.dok.area_flat hs]
  exact h.area
/-- ... and the new one with them, if it stands there -/
theorem Has.more (h : Has x fs) {d : D} (hd : d.Ok) (hl : d.last.length = x.d.last.length) (hF : d.flat.take (64 * x.fr + x.en) = x.d.flat.take (64 * x.fr + x.en)) (hb : b.length ≤ 1048576) (hf : x.en + 16 + b.length ≤ 64 * (x.to - x.fr))
    (hN : (d.flat.drop (64 * x.fr + x.en)).take (16 + b.length) = frameOf b) : Has ⟨d, x.fr, x.to, x.en + 16 + b.length, x.cn + 1⟩ (fs ++ [b]) := by
  have hs := h.ok.sectors
  obtain ⟨a1, a2, a3, a4⟩ := h.ok
  have hk := (h.keep hd hl hF).area
  refine ⟨⟨a1, by simp only; omega, by simp only; omega, by simp only; omega⟩, hd, ?_, by simp [h.cn], ?_⟩
  · show d.area x.fr (x.en + 16 + b.length) = _
    have hk' : d.area x.fr x.en = framesOf fs := hk
    rw [hd.area_flat (by omega)] at hk' ⊢
    rw [Nat.add_assoc, take_more, hk', hN, framesOf_snoc]
  · intro c hc
    rcases List.mem_append.1 hc with hc | hc
    · exact h.short c hc
    · simp at hc
      subst hc
      exact hb
theorem appW_ok {s : D} (h : s.Ok) (k r : Nat) (b : List UInt8) : (s.appW k r b).Ok := h.wrs _ _ _
/-- what Append does to a journal on whose disk nothing waits, and a crash behind it -/
theorem Has.append (h : Has x fs) (hbuf : x.d.buf = []) (hb : b.length ≤ 1048576) (hf : x.en + 16 + b.length ≤ 64 * (x.to - x.fr)) (hu : x.d.left ≠ 0) :
    (x.err b = 0 ∧ Has (x.app b) (fs ++ [b]) ∧ (x.app b).d.buf = [] ∧ x.app b = ⟨(x.app b).d, x.fr, x.to, x.en + 16 + b.length, x.cn + 1⟩ ∧ Has ⟨(x.app b).d, x.fr, x.to, x.en, x.cn⟩ fs) ∨
    (x.err b = 32 ∧ x.app b = ⟨(x.app b).d, x.fr, x.to, x.en, x.cn⟩ ∧ ∀ k t, Has ⟨(x.app b).d.cSt k t, x.fr, x.to, x.en, x.cn⟩ fs) := by
  have hin := h.ok.place hf
  have hs := h.ok.sectors
  obtain ⟨a1, a2, a3, a4⟩ := h.ok
  have hw : x.wr b = x.d.appW (x.fr + x.en / 64) (x.en % 64) b := rfl
  have hk : 64 * x.fr + x.en = 64 * (x.fr + x.en / 64) + x.en % 64 := by omega
  have hdok := (appW_ok h.dok (x.fr + x.en / 64) (x.en % 64) b).fSt
  have hll : (x.wr b).fSt.last.length = x.d.last.length := x.wr_last b
  have hfl := flat_nobuf hbuf
  rcases app_form (b := b) hin hbuf with ⟨e1, e2, e3⟩ | ⟨e1, j, hj, e2, e3⟩
  · refine .inl ?_
    have ea : x.app b = ⟨(x.wr b).fSt, x.fr, x.to, x.en + 16 + b.length, x.cn + 1⟩ := by
      unfold JS.app
      rw [if_neg (by omega), if_neg (by omega), if_neg hu, if_pos (by rw [hw]; exact e1)]
    have ee : x.err b = 0 := by
      unfold JS.err
      rw [if_neg (by omega), if_neg (by omega), if_neg hu, hw]
      exact e1
    have eF : (x.wr b).fSt.flat = splice x.d.last.flatten (64 * (x.fr + x.en / 64)) (PL (x.d.appL (x.fr + x.en / 64) (x.en % 64) b) ((x.en % 64 + 8 + 8 + b.length + 63) / 64)) := by
      rw [hw, flat_nobuf e2, e3]
      exact (settle_ws h.dok.sec _ _ _ hin).2
    have h1 : (x.wr b).fSt.flat.take (64 * x.fr + x.en) = x.d.flat.take (64 * x.fr + x.en) := by
      have := ahead_part (b := b) (q := 64 * ((x.en % 64 + 8 + 8 + b.length + 63) / 64)) h.dok (Nat.mod_lt x.en (by decide)) hbuf hin (by omega)
      rw [List.take_of_length_le (l := PL _ _) (by rw [PL_length]; exact Nat.le_refl _)] at this
      rw [eF, hfl, hk, this]
    have h2 : ((x.wr b).fSt.flat.drop (64 * x.fr + x.en)).take (16 + b.length) = frameOf b := by
      rw [eF, hk]
      exact whole_part h.dok (Nat.mod_lt x.en (by decide)) hin
    rw [ea]
    exact ⟨ee, h.more hdok hll h1 hb hf h2, by rw [hw]; exact e2, rfl, h.keep hdok hll h1⟩
  · refine .inr ?_
    have ea : x.app b = ⟨(x.wr b).fSt, x.fr, x.to, x.en, x.cn⟩ := by
      unfold JS.app
      rw [if_neg (by omega), if_neg (by omega), if_neg hu, if_neg (by rw [hw, e1]; decide)]
    have ee : x.err b = 32 := by
      unfold JS.err
      rw [if_neg (by omega), if_neg (by omega), if_neg hu, hw]
      exact e1
    rw [ea]
    refine ⟨ee, rfl, fun k t => h.keep (hdok.cSt k t) ?_ ?_⟩
    · exact (hdok.cLast_ok k t).2.trans hll
    · obtain ⟨i, q, hi, eF⟩ := cLast_part (s := (x.d.appW (x.fr + x.en / 64) (x.en % 64) b).fSt) hdok.sec e2 (by rw [e3]; omega) k t
      rw [cSt_flat, hw, eF, e3, hk, hfl]
      exact ahead_part h.dok (Nat.mod_lt x.en (by decide)) hbuf (by omega) (by omega)
theorem cSt_same {s : D} (h : s.buf = []) (k t : Int) : s.cSt k t = ⟨s.last, [], -1⟩ := by unfold D.cSt; rw [cLast_nobuf h]
/-- a crash where nothing waits -/
theorem Has.crash (h : Has x fs) (hbuf : x.d.buf = []) (k t : Int) : Has ⟨x.d.cSt k t, x.fr, x.to, x.en, x.cn⟩ fs := by
  refine h.keep (h.dok.cSt k t) (h.dok.cLast_ok k t).2 ?_
  rw [cSt_flat, cLast_nobuf hbuf, flat_nobuf hbuf]
theorem Has.arm (h : Has x fs) (n : Int) (h1 : -9223372036854775808 ≤ n) (h2 : n ≤ 9223372036854775807) : Has ⟨x.d.aSt n, x.fr, x.to, x.en, x.cn⟩ fs := by
  have e1 : (x.d.aSt n).last = x.d.last := by unfold D.aSt; split <;> rfl
  have e2 : (x.d.aSt n).buf = x.d.buf := by unfold D.aSt; split <;> rfl
  refine h.keep (h.dok.aSt n h1 h2) (by rw [e1]) ?_
  unfold D.flat
  rw [e1, e2]
end
end Go.Proofs.Ytbfhlleipeipbaa

/- What is proved: what the sectors of a store hold: the cell tells area, end and count, and the area's frames are the batches that make its pairs; a Commit keeps it, and so does a crash behind which nothing waits. Conditions: those in each statement. -/
namespace Go.Proofs.Ytbfhlleipeipbaa
open Go.RowKit Go.Lib Go.Sort

/-! ### sector by sector -/
theorem told_fSt (s : D) (i : Nat) : s.fSt.told i = s.told i := by
  unfold D.fSt
  split
  · rfl
  · rfl
theorem told_wSt_other (s : D) (j : Int) (l : List UInt8) (i : Nat) (h : i ≠ j.toNat) : (s.wSt j l).told i = s.told i := by
  unfold D.wSt
  split
  · rfl
  · split
    · rfl
    · unfold D.told
      simp only
      rw [settle_snoc, List.getElem?_set_ne (Ne.symm h)]
theorem told_wSt_self {s : D} {j : Nat} {l : List UInt8} (hr : s.refuse (j : Int) = 0) (hl : ¬ 64 < l.length) (hj : j < s.last.length) : (s.wSt (j : Int) l).told j = pad l := by
  unfold D.wSt
  rw [if_neg (fun k => k hr), if_neg hl]
  unfold D.told
  simp only [Int.toNat_natCast]
  rw [settle_snoc, List.getElem?_set_self (by rw [settle_length]; exact hj)]
  rfl
theorem told_wrs (s : D) (k0 : Nat) (l : List UInt8) (i : Nat) (h : i < k0) : ∀ k, (s.wrs k0 l k).told i = s.told i
  | 0 => rfl
  | k + 1 => by
    show ((s.wrs k0 l k).wSt _ _).told i = _
    rw [told_wSt_other _ _ _ _ (by omega), told_wrs s k0 l i h k]
theorem told_app (x : JS) (b : List UInt8) (i : Nat) (h : i < x.fr) : (x.app b).d.told i = x.d.told i := by
  have hw : (x.wr b).fSt.told i = x.d.told i := by
    rw [told_fSt]
    exact told_wrs _ _ _ _ (by omega) _
  unfold JS.app
  split
  · rfl
  · split
    · rfl
    · split
      · rfl
      · split
        · exact hw
        · exact hw
theorem area_same {d d' : D} {k n : Nat} (h : ∀ i, k ≤ i → d'.told i = d.told i) : d'.area k n = d.area k n := by
  unfold D.area D.bytes
  congr 2
  apply List.map_congr_left
  intro i _
  exact h _ (by omega)
theorem pad_sec (h : H4) : pad (secB h) = secB h := by
  unfold pad
  rw [secB_length]
  simp
/-! ### the cell -/
theorem placeOf_nat (t : Int) : ∃ p : Nat, p < 2 ∧ placeOf t = (p : Int) := by
  unfold placeOf
  split
  · exact ⟨0, by omega, rfl⟩
  · exact ⟨1, by omega, rfl⟩
theorem set_told {d : D} {h : H4} (hl : d.left < 0) (hN : 2 ≤ d.last.length) (ht : h.t < 4611686018427387904) (a e c : Int) :
    ∃ p : Nat, p < 2 ∧ (setSt d h a e c).told p = secB (nextH h a e c) ∧ ∀ i, i ≠ p → (setSt d h a e c).told i = d.told i := by
  obtain ⟨p, hp, ep⟩ := placeOf_nat (h.t + 1)
  have hr : d.refuse (p : Int) = 0 := by
    unfold D.refuse
    rw [if_neg (by omega), if_neg (by omega)]
  have hw : d.wErr (p : Int) 64 = 0 := by
    unfold D.wErr
    rw [if_neg (fun k => k hr), if_neg (by omega)]
  refine ⟨p, hp, ?_, fun i hi => ?_⟩
  · unfold setSt
    rw [if_neg (by omega), ep, if_neg (fun k => k hw), told_fSt, told_wSt_self hr (by rw [secB_length]; omega) (by omega), pad_sec]
  · unfold setSt
    rw [if_neg (by omega), ep, if_neg (fun k => k hw), told_fSt, told_wSt_other _ _ _ _ (by simpa using hi)]
theorem set_ok {d : D} (hd : d.Ok) (h : H4) (a e c : Int) : (setSt d h a e c).Ok := by
  unfold setSt
  split
  · exact hd
  · split
    · exact hd.wSt _ _
    · exact (hd.wSt _ _).fSt
theorem pick_t (h n : H4) : h.t ≤ (pickH h n).t ∧ n.t ≤ (pickH h n).t := by
  unfold pickH
  split <;> omega
theorem openH_set {d : D} {h : H4} (ho : openH d = h) (hl : d.left < 0) (hN : 2 ≤ d.last.length) (ht : h.t < 4611686018427387904) (a e c : Int) (hi : (nextH h a e c).In) : openH (setSt d h a e c) = nextH h a e c := by
  obtain ⟨p, hp, h1, h2⟩ := set_told hl hN ht a e c
  have k1 := pick_t H4.zero (toldOf (d.told 0))
  have k2 := pick_t (pickH H4.zero (toldOf (d.told 0))) (toldOf (d.told 1))
  rw [← openH_eq, ho] at k2
  have hz : H4.zero.t = 0 := rfl
  have hn : (nextH h a e c).t = h.t + 1 := rfl
  rw [openH_eq]
  rcases (show p = 0 ∨ p = 1 by omega) with rfl | rfl
  · rw [h1, h2 1 (by omega), toldOf_sec _ hi, pickH_gt (h := H4.zero) (by omega), pickH_le (by omega)]
  · rw [h1, h2 0 (by omega), toldOf_sec _ hi, pickH_gt (by omega)]
theorem openH_same {d d' : D} (h : ∀ i, i < 2 → d'.told i = d.told i) : openH d' = openH d := by
  rw [openH_eq, openH_eq, h 0 (by omega), h 1 (by omega)]
/-! ### the journal -/
theorem Has.cell {x : JS} {fs : List (List UInt8)} (h : Has x fs) {h4 : H4} {a e c : Int} (hfr : 2 ≤ x.fr) (hl : x.d.left < 0) (hN : 2 ≤ x.d.last.length) (ht : h4.t < 4611686018427387904) : Has ⟨setSt x.d h4 a e c, x.fr, x.to, x.en, x.cn⟩ fs := by
  obtain ⟨p, hp, _, h2⟩ := set_told hl hN ht a e c
  obtain ⟨a1, a2, a3, a4⟩ := h.ok
  refine ⟨⟨a1, by simp only [setSt_len]; exact a2, a3, a4⟩, set_ok h.dok _ _ _ _, ?_, h.cn, h.short⟩
  show (setSt x.d h4 a e c).area x.fr x.en = _
  rw [area_same (fun i hi => h2 i (by omega))]
  exact h.area
/-- what the sectors of a store hold -/
structure Rep (N T : Nat) (x : SS) (a en cn : Nat) (bs : List (List Cg)) : Prop where
  inv : Inv N T x a en cn
  cell : openH x.d = x.h
  has : Has (areaJ x.d a en cn) (bs.map batB)
  all : allC [] bs.flatten = x.P
  live : Live x.P
  nrm : ∀ b ∈ bs, ∀ y ∈ b, norm y = y
theorem norm_norm (c : Cg) : norm (norm c) = norm c := by
  unfold norm
  by_cases h : c.gone = true
  · rw [if_pos h]; rfl
  · rw [if_neg h, if_neg h]
theorem live_norm {l : List Cg} (h : Live l) : ∀ y ∈ l, norm y = y := fun y hy => by
  unfold norm
  rw [if_neg (by rw [h y hy]; decide)]
theorem Rep.new {N : Nat} (h : 4 ≤ N) (hN : N ≤ 65536) : Rep N 0 (newX N) 0 0 0 [] :=
  ⟨newX_inv h, new_openH h, Has.zero (newSt_ok N (by omega) hN) (Nat.le_add_right _ _) (by have e : (newX N).d.last.length = N := new_len N; rw [e, new_len]; exact frA_in (a := 0) h (by omega)), rfl, (fun c hc => by cases hc), (fun b hb => by cases hb)⟩
theorem areaJ_fr (d : D) (a en cn : Nat) : 2 ≤ (areaJ d a en cn).fr := by
  show 2 ≤ frA _ a
  unfold frA
  omega
theorem Rep.commit {N T : Nat} {x : SS} {a en cn : Nat} {bs : List (List Cg)} (h : Rep N T x a en cn bs) (hN : 4 ≤ N) (hT : T < 4611686018427387904) (l : List Cg) (hf : fitsB N en (batB l).length ∨ fitsB N 0 (batB (allC x.P l)).length) :
    ∃ a' en' cn' bs', Rep N (T + 1) (comX x a en cn l) a' en' cn' bs' := by
  have hv := h.inv
  obtain ⟨hE, hP, a', en', cn', hi'⟩ := hv.commit hN hT l hf
  have e1 := areaJ_err (a := a) (en := en) (cn := cn) hv.lft (batB l)
  have e2 := areaJ_err (a := 1 - a) (en := 0) (cn := 0) hv.lft (batB (allC x.P l))
  rw [hv.len] at e1 e2
  -- the journal that is laid
  have key : ∃ bs' : List (List Cg), Has (comL x.d a en cn x.P l) (bs'.map batB) ∧ allC [] bs'.flatten = allC x.P l ∧ (comL x.d a en cn x.P l).fr = frA N (comA x.d a en cn l) ∧ (comL x.d a en cn x.P l).to = frA N (comA x.d a en cn l) + hlf N ∧ (∀ i, i < 2 → (comL x.d a en cn x.P l).d.told i = x.d.told i) ∧ comE1 x.d a en cn x.P l = 0 ∧ ∀ b ∈ bs', ∀ y ∈ b, norm y = y := by
    obtain ⟨f1, f2, f3⟩ := layJ_fields x.d a en cn (batB l) (batB (allC x.P l))
    rw [hv.len] at f1 f2
    by_cases hfit : fitsB N en (batB l).length
    · have h0 := e1.1 hfit
      have hL : comL x.d a en cn x.P l = (areaJ x.d a en cn).app (batB l) := by unfold comL layJ; rw [if_neg (by rw [h0]; unfold full; omega)]
      have hE1 : comE1 x.d a en cn x.P l = 0 := by unfold comE1 layE; rw [if_neg (by rw [h0]; unfold full; omega), h0]
      have hto : 64 * ((areaJ x.d a en cn).to - (areaJ x.d a en cn).fr) = 64 * hlf N := by show 64 * (frA _ a + hlf x.d.last.length - frA _ a) = _; rw [hv.len]; omega
      rcases h.has.append hv.buf hfit.1 (by rw [hto]; exact hfit.2) (by show x.d.left ≠ 0; have := hv.lft; omega) with ⟨_, k2, _, _, _⟩ | ⟨k1, _, _⟩
      · refine ⟨bs ++ [l.map norm], by rw [hL, List.map_append, List.map_singleton, batB_norm]; exact k2, ?_, f1, f2, fun i hi => ?_, hE1, fun b hb y hy => ?_⟩
        · rw [List.flatten_append, allC_append, h.all, List.flatten_singleton, allC_norm]
        · rw [hL]
          exact told_app _ _ _ (Nat.lt_of_lt_of_le hi (areaJ_fr _ _ _ _))
        · rcases List.mem_append.1 hb with hb | hb
          · exact h.nrm b hb y hy
          · obtain rfl := List.mem_singleton.1 hb
            obtain ⟨z, _, rfl⟩ := List.mem_map.1 hy
            exact norm_norm z
      · rw [h0] at k1; cases k1
    · have hfu := e1.2 hfit
      have hfit2 := hf.resolve_left hfit
      have h0 := e2.1 hfit2
      have hL : comL x.d a en cn x.P l = (areaJ x.d (1 - a) 0 0).app (batB (allC x.P l)) := by unfold comL layJ; rw [if_pos hfu]
      have hE1 : comE1 x.d a en cn x.P l = 0 := by unfold comE1 layE; rw [if_pos hfu, if_neg (by rw [h0]; unfold full; omega), h0]
      have hto : 64 * ((areaJ x.d (1 - a) 0 0).to - (areaJ x.d (1 - a) 0 0).fr) = 64 * hlf N := by show 64 * (frA _ (1 - a) + hlf x.d.last.length - frA _ (1 - a)) = _; rw [hv.len]; omega
      have hz : Has (areaJ x.d (1 - a) 0 0) [] := Has.zero (s := x.d) h.has.dok (Nat.le_add_right _ _) (by rw [hv.len]; exact frA_in (a := 1 - a) hN (by omega))
      rcases hz.append (b := batB (allC x.P l)) hv.buf hfit2.1 (by rw [hto]; exact hfit2.2) (by show x.d.left ≠ 0; have := hv.lft; omega) with ⟨_, k2, _, _, _⟩ | ⟨k1, _, _⟩
      · refine ⟨[allC x.P l], by rw [hL]; exact k2, ?_, f1, f2, fun i hi => ?_, hE1, fun b hb y hy => ?_⟩
        · rw [List.flatten_singleton]
          exact allC_snap (allC_asc hv.asc) (allC_live l x.P h.live hv.asc)
        · rw [hL]
          exact told_app _ _ _ (Nat.lt_of_lt_of_le hi (areaJ_fr _ _ _ _))
        · obtain rfl := List.mem_singleton.1 hb
          exact live_norm (allC_live l x.P h.live hv.asc) y hy
      · rw [h0] at k1; cases k1
  obtain ⟨bs', hH, hA, hfr, hto, ht, hE1, hNr⟩ := key
  have hX : comX x a en cn l = comS x a en cn l := by unfold comX; rw [hE, if_neg (by omega)]
  have hS : comS x a en cn l = ⟨setSt (comL x.d a en cn x.P l).d x.h (comA x.d a en cn l) (comL x.d a en cn x.P l).en (comL x.d a en cn x.P l).cn, nextH x.h (comA x.d a en cn l) (comL x.d a en cn x.P l).en (comL x.d a en cn x.P l).cn, allC x.P l, x.st⟩ := by
    unfold comS; rw [if_neg (fun k => k hE1), if_neg (fun k => k hE)]
  have hdisk := layJ_disk hv.lft hv.buf a en cn (batB l) (batB (allC x.P l))
  have hll := (layJ_fields x.d a en cn (batB l) (batB (allC x.P l))).2.2
  have hcl : (comL x.d a en cn x.P l).d.left < 0 := by show (layJ _ _ _ _ _ _).d.left < 0; rw [hdisk.1]; exact hv.lft
  have hcn : (comL x.d a en cn x.P l).d.last.length = N := by show (layJ _ _ _ _ _ _).d.last.length = N; rw [hll]; exact hv.len
  have htn := hv.tn
  rw [hX, hS] at hi' ⊢
  have ea : (comA x.d a en cn l : Int) = (a' : Int) := hi'.ha
  have ee : ((comL x.d a en cn x.P l).en : Int) = (en' : Int) := hi'.he
  have ec : ((comL x.d a en cn x.P l).cn : Int) = (cn' : Int) := hi'.hc
  have ea' : comA x.d a en cn l = a' := by omega
  have ee' : (comL x.d a en cn x.P l).en = en' := by omega
  have ec' : (comL x.d a en cn x.P l).cn = cn' := by omega
  have hin : (nextH x.h (comA x.d a en cn l) (comL x.d a en cn x.P l).en (comL x.d a en cn x.P l).cn).In := by
    have h1 := hi'.a1
    have h2 := hi'.lo
    have h3 := hi'.ct
    have h4 := hH.ok.dk
    have h5 := hH.dok.most
    unfold hlf at h2
    unfold H4.In nextH
    simp only
    omega
  refine ⟨a', en', cn', bs', hi', ?_, ?_, hA, allC_live l x.P h.live hv.asc, hNr⟩
  · exact openH_set ((openH_same ht).trans h.cell) hcl (by omega) (by omega) _ _ _ hin
  · have := hH.cell (h4 := x.h) (a := (comA x.d a en cn l : Int)) (e := ((comL x.d a en cn x.P l).en : Int)) (c := ((comL x.d a en cn x.P l).cn : Int)) (by rw [hfr]; unfold frA; omega) hcl (by omega) (by omega)
    rw [hfr, hto, ea', ee', ec'] at this
    unfold areaJ
    simp only [setSt_len, hcn]
    rw [ea', ee', ec']
    exact this
theorem mem_frames {fs : List (List UInt8)} : ∀ {b : List UInt8}, b ∈ fs → b.length ≤ (framesOf fs).length := by
  induction fs with
  | nil => intro b hb; cases hb
  | cons f fs ih =>
    intro b hb
    rw [framesOf_cons, List.length_append, frameOf_length]
    rcases List.mem_cons.1 hb with rfl | hb
    · omega
    · have := ih hb; omega
theorem flat_frames : ∀ bs : List (List Cg), bs.flatten.length ≤ (framesOf (bs.map batB)).length
  | [] => Nat.le_refl _
  | b :: bs => by
    have h1 := flat_frames bs
    have h2 := chsB_len b
    rw [List.flatten_cons, List.map_cons, framesOf_cons, List.length_append, List.length_append, frameOf_length, batB_length]
    omega
theorem chB_has (y : Cg) (h : norm y = y) : y.key.size + y.val.size ≤ (chB y).length := by
  obtain ⟨k, v, g⟩ := y
  cases g
  · rw [chB_no]
    simp only [List.length_append, dig_length, size_toList]
    omega
  · rw [chB_yes]
    have hv : v = ⟨#[]⟩ := by
      have : norm ⟨k, v, true⟩ = ⟨k, ⟨#[]⟩, true⟩ := rfl
      rw [this] at h
      injection h with _ h2
      exact h2.symm
    subst hv
    simp only [List.length_append, dig_length, size_toList]
    show k.size + 0 ≤ _
    omega
theorem mem_chsB : ∀ (l : List Cg) (y : Cg), y ∈ l → (chB y).length ≤ (chsB l).length
  | c :: l, y, h => by
    rw [chsB_cons, List.length_append]
    rcases List.mem_cons.1 h with rfl | h
    · omega
    · have := mem_chsB l y h; omega
/-- behind a crash it is opened as it was -/
theorem Rep.opOk {N T : Nat} {x : SS} {a en cn : Nat} {bs : List (List Cg)} (h : Rep N T x a en cn bs) (k t : Int) : OpOk (x.d.cSt k t) a bs ∧ (x.d.cSt k t).left < 0 ∧ (x.d.cSt k t).last.length = N ∧ (x.d.cSt k t).buf = [] := by
  have hv := h.inv
  have hc := cSt_same hv.buf k t
  have hl : (x.d.cSt k t).last.length = N := by rw [hc]; exact hv.len
  have ho : openH (x.d.cSt k t) = x.h := by
    rw [← h.cell]
    refine openH_same fun i _ => ?_
    rw [hc]
    unfold D.told
    rw [hv.buf]
  have hh := h.has.crash hv.buf k t
  have hop := hh.opens (by show (x.d.cSt k t).left ≠ 0; rw [hc]; show (-1 : Int) ≠ 0; omega)
  have hlen : (framesOf (bs.map batB)).length ≤ en := by
    rw [← h.has.area]
    show (D.area _ _ en).length ≤ en
    unfold D.area
    exact List.length_take_le _ _
  have hlo := hv.lo
  have hd := h.has.dok.most
  have hd' : N ≤ 65536 := by rw [← hv.len]; exact hd
  unfold hlf at hlo
  refine ⟨⟨by rw [ho]; exact hv.ha, hv.a1, ?_, ?_, fun b hb => ?_, fun b hb y hy => ?_, ?_, ?_⟩, by rw [hc]; show (-1 : Int) < 0; omega, hl, by rw [hc]⟩
  · rw [hl, ho, hv.he, hv.hc]
    have := hop.1
    simp only [areaJ, hv.len] at this
    rw [Int.natCast_add] at this
    exact this
  · rw [hl, ho, hv.he]
    have := hop.2
    simp only [areaJ, hv.len] at this
    exact this
  · have := mem_frames (List.mem_map_of_mem (f := batB) hb)
    omega
  · have h1 := mem_frames (List.mem_map_of_mem (f := batB) hb)
    have h2 := chB_has y (h.nrm b hb y hy)
    have h3 := mem_chsB b y hy
    rw [batB_length] at h1
    omega
  · have := flat_frames bs
    omega
  · have h1 := h.has.cn
    have h2 : cn = (bs.map batB).length := h1
    have h3 := hv.ct
    rw [List.length_map] at h2
    omega
end Go.Proofs.Ytbfhlleipeipbaa

/- What is proved: what StoreFull needs beside: a Commit to a store whose sectors hold its pairs, the pair that is too great, a crash. Conditions: those in each statement. -/
namespace Go.Proofs.Ytbfhlleipeipbaa
open Go.RowKit Go.Lib Go.Sort

theorem crash_mine {w0 w : World} {g : Nat} {s : D} (h : Mine w0 w g s) (k t : Int) (hn : s.buf.length ≤ 4611686018427387904) : Calls Try.prog 18 #[.pointer (some ⟨g, 0, none⟩), .int .i64 k, .int .i64 t] w fun e w' => e = .returned (.tuple #[]) ∧ Mine w0 w' g (s.cSt k t) ∧ OthersD w w' := by
  obtain ⟨L, q, hd, hb0, hf⟩ := h
  exact (crash_any w g L q s hd k t hn).mono fun e w' ⟨h1, h2⟩ => ⟨h1, Mine.afterD hd hb0 hf h2⟩
theorem told_othersS {W W' : World} {B n : Nat} {v : Value} {xs : List Value} (h : W.ownsRow B 48 3 v n xs) (ho : OthersS W W') : W'.ownsRow B 48 3 v n xs :=
  own_cells h fun b C t fr ht hb => by subst ht; exact ho.2 b C _ fr hb (by decide) (by decide) (by decide) (by decide) (by decide) (by decide)
theorem told_othersD {W W' : World} {B n : Nat} {v : Value} {xs : List Value} (h : W.ownsRow B 48 3 v n xs) (ho : OthersD W W') : W'.ownsRow B 48 3 v n xs :=
  own_cells h fun b C t fr ht hb => by subst ht; exact ho.2 b C _ fr hb (by decide) (by decide) (by decide)
theorem Small.one {P : List Cg} (h : Small P) (ha : Asc P) {c : Cg} (hc : c.key.size + c.val.size ≤ 1048576) : Sized P [c] := by
  have hm : ∀ y ∈ allC P [c], y.key.size + y.val.size ≤ 1048576 := fun y hy => by
    rcases mem_allC [c] P ha y hy with h1 | ⟨d, hd, rfl⟩
    · exact h.s y h1
    · obtain rfl := List.mem_singleton.1 hd
      exact hc
  have hn := h.n
  have hl := allC_len [c] P
  have hb := chsB_top 1048576 (allC P [c]) hm
  have h3 : (allC P [c]).length * (17 + 1048576) ≤ 301 * (17 + 1048576) := Nat.mul_le_mul_right _ (by simp at hl; omega)
  have h4 := chB_top c
  refine ⟨?_, fun y hy => ?_, by simp only [List.length_singleton]; omega, by omega, fun y hy => Nat.le_trans (hm y hy) (by omega)⟩
  · rw [batB_length]
    unfold chsB
    simp
    omega
  · obtain rfl := List.mem_singleton.1 hy
    omega
/-- what Commit does to a store whose sectors hold its pairs -/
theorem Commit_rep {w0 w : World} {sb cb g N T : Nat} {x : SS} {a en cn : Nat} {bs : List (List Cg)} (hx : SMem w0 w sb cb g x) (hr : Rep N T x a en cn bs) (hN : 4 ≤ N) (hT : T < 4611686018427387904) (l : List Cg) (hs : Sized x.P l) (A : Option Addr) (n c : Nat) (hl : HC w A n c l) :
    Calls Try.prog 13 #[.pointer (some ⟨sb, 0, none⟩), .slice A n c] w fun e w' =>
      (e = .returned (.int .i64 0) ∧ (fitsB N en (batB l).length ∨ fitsB N 0 (batB (allC x.P l)).length) ∧ ∃ x' a' en' cn' bs', SMem w0 w' sb cb g x' ∧ Rep N (T + 1) x' a' en' cn' bs' ∧ x'.P = allC x.P l ∧ OthersS w w') ∨
      (e = .returned (.int .i64 51) ∧ SMem w0 w' sb cb g x ∧ OthersS w w') := by
  have hi := hr.inv
  have h := Commit_any w0 w sb cb g x a en cn l hx (hi.cmOk hN hs) hi.st A n c hl
  by_cases hf : fitsB N en (batB l).length ∨ fitsB N 0 (batB (allC x.P l)).length
  · obtain ⟨e0, hP, _⟩ := hi.commit hN hT l hf
    obtain ⟨a', en', cn', bs', hr'⟩ := hr.commit hN hT l hf
    refine h.mono ?_
    rintro e w' ⟨rfl, hm, ho⟩
    exact .inl ⟨by rw [e0], hf, _, a', en', cn', bs', hm, hr', hP, ho⟩
  · obtain ⟨e0, hX⟩ := hi.refused l (fun h => hf (.inl h)) (fun h => hf (.inr h))
    refine h.mono ?_
    rintro e w' ⟨rfl, hm, ho⟩
    exact .inr ⟨by rw [e0], by rw [hX] at hm; exact hm, ho⟩
/-- the first Commit: whatever it answers -/
theorem Commit_first {w0 w : World} {sb cb g N : Nat} (hx : SMem w0 w sb cb g (newX N)) (hN : 4 ≤ N) (hN2 : N ≤ 65536) (l : List Cg) (hs : Small l) (A : Option Addr) (n c : Nat) (hl : HC w A n c l) :
    Calls Try.prog 13 #[.pointer (some ⟨sb, 0, none⟩), .slice A n c] w fun e w' =>
      ∃ er x' T a en cn bs, e = .returned (.int .i64 er) ∧ SMem w0 w' sb cb g x' ∧ Rep N T x' a en cn bs ∧ T ≤ 1 ∧ Small x'.P ∧ OthersS w w' := by
  refine (Commit_rep hx (Rep.new hN hN2) hN (by omega) l hs.sized A n c hl).mono ?_
  rintro e w' (⟨rfl, _, x', a', en', cn', bs', h1, h2, h3, h4⟩ | ⟨rfl, h1, h4⟩)
  · exact ⟨0, x', 1, a', en', cn', bs', rfl, h1, h2, Nat.le_refl _, by rw [h3]; exact hs.all, h4⟩
  · exact ⟨51, newX N, 0, 0, 0, 0, [], rfl, h1, Rep.new hN hN2, by omega, ⟨Nat.zero_le _, fun y hy => by cases hy⟩, h4⟩
/-- the pair that may be too great -/
def zzC (n : Nat) : Cg := ⟨⟨#[122, 122]⟩, ⟨(List.replicate n (0 : UInt8)).toArray⟩, false⟩
theorem zz_size (n : Nat) : (zzC n).key.size = 2 ∧ (zzC n).val.size = n := by
  refine ⟨rfl, ?_⟩
  show ((List.replicate n (0 : UInt8)).toArray).size = n
  simp
theorem zz_chB (n : Nat) : n ≤ (chB (zzC n)).length := by
  have h1 := chB_has (zzC n) rfl
  have h2 := zz_size n
  omega
theorem zz_in {P : List Cg} (ha : Asc P) (n : Nat) : zzC n ∈ allC P [zzC n] := by
  have h := (doGo_spec (bare (zzC n)) P (zzC n).gone ha).2.2 (ky (bare (zzC n)))
  rw [if_pos rfl] at h
  have h2 : (doC P (zzC n)).find? (hasKey (ky (bare (zzC n)))) = some (zzC n) := h
  exact List.mem_of_find?_eq_some h2
theorem zz_no {P : List Cg} (ha : Asc P) {N en n : Nat} (h : 64 * N < n) : ¬ (fitsB N en (batB [zzC n]).length ∨ fitsB N 0 (batB (allC P [zzC n])).length) := by
  have h1 := zz_chB n
  have h2 := mem_chsB (allC P [zzC n]) _ (zz_in ha n)
  have h3 := mem_chsB [zzC n] _ (List.mem_singleton.2 rfl)
  have h4 : hlf N ≤ N := by unfold hlf; omega
  unfold fitsB
  rw [batB_length, batB_length]
  omega
theorem made_zero (n : Nat) : (madeCells (Value.int .u8 0).cells (n * 1)).toList = bv (List.replicate n 0) := by
  rw [bv_rep]
  unfold madeCells
  apply List.ext_getElem?
  intro i
  simp only [Array.toList_map, Array.toList_range, List.getElem?_map, List.getElem?_replicate, Nat.mul_one]
  by_cases hi : i < n
  · rw [List.getElem?_range hi, if_pos hi, Option.map_some]
    simp [Value.cells, Nat.mod_one]
  · rw [List.getElem?_eq_none (by simpa using hi), if_neg hi]
    rfl
def zeroC (n : Nat) : Array Value := (bv (List.replicate n 0)).toArray
theorem make_zeros (n : Nat) (w : World) (hn : n ≤ 140737488355328) : (Instr.makeSlice 43 (.int .i64 (n : Int)) (.int .i64 (n : Int))).run Try.prog w = .ok (.slice (some ⟨w.heap.size, 0, none⟩) n n) (w.alloc (.cells (zeroC n) 5)) := by
  obtain ⟨i0, hi0, hz0, hz1, hz2⟩ := info_parts Try.info5
  have h := run_make (P := Try.prog) w 43 5 i0 _ Try.underlying43 hi0 hz0 .i64 .i64 (n : Int) (n : Int) (by omega) (Int.le_refl _) (by rw [hz2]; omega) (by omega)
  have e : madeCells (Value.int .u8 0).cells (n * 1) = zeroC n := by
    unfold zeroC
    rw [← made_zero n]
  rw [hz1, Int.toNat_natCast, e] at h
  exact h
theorem Hold.zeros (w : World) (n k : Nat) (hk : k = w.heap.size) : Hold (w.alloc (.cells (zeroC n) 5)) (some ⟨k, 0, none⟩) n n (List.replicate n 0) := by
  have := Hold.new w (List.replicate n 0) 5 (0, 0) k hk
  rw [List.length_replicate] at this
  exact this

/-- a new row of noughts as a text -/
theorem zero_conv (W : World) (n : Nat) : (convert 43 9 (.slice (some ⟨W.heap.size, 0, none⟩) n n)).run Try.prog (W.alloc (.cells (zeroC n) 5)) = .ok (.string (zzC n).val) (W.alloc (.cells (zeroC n) 5)) := conv_hold (Hold.zeros W n _ rfl)
end Go.Proofs.Ytbfhlleipeipbaa

/- What is proved: what a Commit that is cut off leaves of a store's sectors, sector by sector. Conditions: those in each statement. -/
namespace Go.Proofs.Ytbfhlleipeipbaa
open Go.RowKit Go.Lib Go.Sort

/-! ### a crash, sector by sector -/
theorem settle_other (i : Nat) : ∀ (b : List (Nat × List UInt8)) (last : List (List UInt8)), (∀ p ∈ b, p.1 ≠ i) → (settle last b)[i]? = last[i]?
  | [], _, _ => rfl
  | p :: b, last, h => by
    show (settle (last.set p.1 p.2) b)[i]? = _
    rw [settle_other i b _ (fun q hq => h q (List.mem_cons_of_mem _ hq)), List.getElem?_set_ne (h p (List.mem_cons_self ..))]
theorem told_other {s : D} {i : Nat} (h : ∀ p ∈ s.buf, p.1 ≠ i) : s.told i = s.last[i]?.getD [] := by
  unfold D.told
  rw [settle_other i _ _ h]
theorem cSt_other {s : D} {i : Nat} (h : ∀ p ∈ s.buf, p.1 ≠ i) (k t : Int) : (s.cSt k t).told i = s.last[i]?.getD [] := by
  have hcl : (s.cLast k t)[i]? = s.last[i]? := by
    have h1 : (settle s.last (s.buf.take (clampN k s.buf.length)))[i]? = s.last[i]? := settle_other i _ _ (fun p hp => h p (List.mem_of_mem_take hp))
    unfold D.cLast
    split
    · exact h1
    · rename_i p hp
      rw [List.getElem?_set_ne (h p (List.mem_of_getElem? hp))]
      exact h1
  show ((settle (s.cLast k t) [])[i]?).getD [] = _
  rw [show settle (s.cLast k t) [] = s.cLast k t from rfl, hcl]
/-- what waits behind an Append lies within the journal -/
theorem app_buf {x : JS} (h : x.Ok) (hb : x.d.buf = []) (b : List UInt8) : (∀ p ∈ (x.app b).d.buf, x.fr ≤ p.1 ∧ p.1 < x.to) ∧ (∀ i, (i < x.fr ∨ x.to ≤ i) → (x.app b).d.last[i]? = x.d.last[i]?) := by
  by_cases hs : x.app b = x
  · rw [hs, hb]
    exact ⟨(fun p hp => by cases hp), fun _ _ => rfl⟩
  · have hfit : ¬ 64 * (x.to - x.fr) < x.en + 16 + b.length := fun hf => hs (by unfold JS.app; rw [if_pos hf]; split <;> rfl)
    have hin := h.place (b := b) (by omega)
    obtain ⟨a1, a2, a3, a4⟩ := h
    have hd : (x.app b).d = (x.wr b).fSt := by
      by_cases h1 : 1048576 < b.length
      · exact absurd (by unfold JS.app; rw [if_pos h1]) hs
      · by_cases h3 : x.d.left = 0
        · exact absurd (by unfold JS.app; rw [if_neg h1, if_neg hfit, if_pos h3]) hs
        · unfold JS.app
          rw [if_neg h1, if_neg hfit, if_neg h3]
          split <;> rfl
    rw [hd]
    have hw : x.wr b = x.d.appW (x.fr + x.en / 64) (x.en % 64) b := rfl
    have hlt : ∀ j, j ≤ (x.en % 64 + 8 + 8 + b.length + 63) / 64 → ∀ p ∈ wsOf (x.fr + x.en / 64) (x.d.appL (x.fr + x.en / 64) (x.en % 64) b) j, x.fr ≤ p.1 ∧ p.1 < x.to := by
      intro j hj p hp
      obtain ⟨i, hi, rfl⟩ := List.mem_map.1 hp
      have hi' := List.mem_range.1 hi
      show x.fr ≤ x.fr + x.en / 64 + i ∧ x.fr + x.en / 64 + i < x.to
      omega
    rcases app_form (b := b) hin hb with ⟨e1, e2, e3⟩ | ⟨e1, j, hj, e2, e3⟩
    · rw [hw, e2, e3]
      refine ⟨fun p hp => (by cases hp), fun i hi => settle_other i _ _ (fun p hp => ?_)⟩
      have := hlt _ (Nat.le_refl _) p hp
      omega
    · rw [hw, e2, e3]
      exact ⟨hlt j hj, fun _ _ => rfl⟩
theorem app_len (x : JS) (b : List UInt8) : (x.app b).d.last.length = x.d.last.length := (JS.app_fields x b).2.2
/-- outside the journal an Append, and a crash behind it, turn nothing -/
theorem app_out {x : JS} (h : x.Ok) (hb : x.d.buf = []) (b : List UInt8) {i : Nat} (hi : i < x.fr ∨ x.to ≤ i) : (x.app b).d.told i = x.d.told i ∧ ∀ k t, ((x.app b).d.cSt k t).told i = x.d.told i := by
  obtain ⟨h1, h2⟩ := app_buf h hb b
  have hne : ∀ p ∈ (x.app b).d.buf, p.1 ≠ i := fun p hp => by have := h1 p hp; omega
  have h0 : x.d.told i = x.d.last[i]?.getD [] := told_other (by rw [hb]; intro p hp; cases hp)
  exact ⟨by rw [told_other hne, h2 i hi, h0], fun k t => by rw [cSt_other hne, h2 i hi, h0]⟩
/-! ### a cell's sector that is torn -/
theorem rdH_append {A : List UInt8} (hA : A.length = 32) (B : List UInt8) : rdH (A ++ B) = rdH A := by
  unfold rdH
  rw [List.take_append_of_le_length (by omega), List.drop_append_of_le_length (by omega), List.drop_append_of_le_length (by omega), List.drop_append_of_le_length (by omega),
    List.take_append_of_le_length (by rw [List.length_drop]; omega), List.take_append_of_le_length (by rw [List.length_drop]; omega), List.take_append_of_le_length (by rw [List.length_drop]; omega)]
theorem toldOf_whole {Y : List UInt8} (hY : Y.length = 32) : toldOf (Y ++ Y) = rdH Y := by
  have h2 : (Y ++ Y).drop 32 = Y := by rw [← hY, List.drop_left]
  unfold toldOf
  rw [h2, rdH_append hY, if_pos rfl]
theorem num_inj : ∀ (n : Nat) (l m : List UInt8), l.length = n → m.length = n → num l = num m → l = m
  | 0, l, m, h1, h2, _ => by rw [List.eq_nil_of_length_eq_zero h1, List.eq_nil_of_length_eq_zero h2]
  | n + 1, l, m, h1, h2, h => by
    rcases List.eq_nil_or_concat l with rfl | ⟨l', a, rfl⟩
    · simp at h1
    · rcases List.eq_nil_or_concat m with rfl | ⟨m', b, rfl⟩
      · simp at h2
      · rw [List.concat_eq_append, List.concat_eq_append] at *
        rw [num_snoc, num_snoc] at h
        have ha := a.toNat_lt
        have hb := b.toNat_lt
        have e1 : a.toNat = b.toNat := by omega
        have e2 : num l' = num m' := by omega
        rw [num_inj n l' m' (by simpa using h1) (by simpa using h2) e2, UInt8.toNat_inj.1 e1]
theorem rd_inj {l m : List UInt8} (h1 : l.length = 8) (h2 : m.length = 8) (h : rd l = rd m) : l = m := by
  apply num_inj 8 l m h1 h2
  have b1 := num_lt l
  have b2 := num_lt m
  rw [h1] at b1
  rw [h2] at b2
  unfold rd at h
  rw [← IntWalk.i64_left, ← IntWalk.i64_left, IntKind.wrap_i64, IntKind.wrap_i64] at h
  simp only [Nat.reducePow] at b1 b2
  omega
theorem rdH_inj {l m : List UInt8} (h1 : l.length = 32) (h2 : m.length = 32) (h : rdH l = rdH m) : l = m := by
  unfold rdH at h
  injection h with e0 e1 e2 e3
  have k0 := rd_inj (by simp; omega) (by simp; omega) e0
  have k1 := rd_inj (by simp; omega) (by simp; omega) e1
  have k2 := rd_inj (by simp; omega) (by simp; omega) e2
  have k3 := rd_inj (by simp; omega) (by simp; omega) e3
  have cut : ∀ x : List UInt8, x.length = 32 → x = x.take 8 ++ ((x.drop 8).take 8 ++ ((x.drop 16).take 8 ++ (x.drop 24).take 8)) := by
    intro x hx
    have d1 : (x.drop 24).take 8 = x.drop 24 := List.take_of_length_le (by simp; omega)
    have d2 : (x.drop 16).take 8 ++ x.drop 24 = x.drop 16 := by
      have := List.take_append_drop 8 (x.drop 16)
      rwa [List.drop_drop] at this
    have d3 : (x.drop 8).take 8 ++ x.drop 16 = x.drop 8 := by
      have := List.take_append_drop 8 (x.drop 8)
      rwa [List.drop_drop] at this
    rw [d1, d2, d3, List.take_append_drop]
  rw [cut l h1, cut m h2, k0, k1, k2, k3]
/-- a torn sector tells the old value, the new one, or nothing; if it tells the new one it is that, whole -/
theorem tear_told {Y : List UInt8} (hY : Y.length = 32) (n : H4) (hn : n.In) (t : Nat) (ht : t ≤ 64) :
    (tear (secB n) (Y ++ Y) t).length = 64 ∧ (toldOf (tear (secB n) (Y ++ Y) t) = toldOf (Y ++ Y) ∨ toldOf (tear (secB n) (Y ++ Y) t) = H4.zero ∨ (toldOf (tear (secB n) (Y ++ Y) t) = n ∧ tear (secB n) (Y ++ Y) t = secB n)) := by
  have hX := digH_length n
  have hlen : (tear (secB n) (Y ++ Y) t).length = 64 := by
    unfold tear
    rw [List.length_append, List.length_take, List.length_drop, secB_length, List.length_append]
    omega
  refine ⟨hlen, ?_⟩
  by_cases h32 : t ≤ 32
  · have e : (tear (secB n) (Y ++ Y) t).drop 32 = Y := by
      unfold tear
      have l1 : ((secB n).take t).length = t := by rw [List.length_take, secB_length]; omega
      rw [List.drop_append, List.drop_of_length_le (by omega), List.nil_append, l1, List.drop_drop, show t + (32 - t) = Y.length by omega, List.drop_left]
    by_cases hq : rdH (tear (secB n) (Y ++ Y) t) = rdH ((tear (secB n) (Y ++ Y) t).drop 32)
    · left
      rw [toldOf_whole hY]
      unfold toldOf
      rw [if_pos hq, hq, e]
    · right; left
      unfold toldOf
      rw [if_neg hq]
  · have e : (tear (secB n) (Y ++ Y) t) = digH n ++ ((digH n).take (t - 32) ++ Y.drop (t - 32)) := by
      unfold tear secB
      rw [List.take_append, List.take_of_length_le (by omega), List.append_assoc, hX, List.drop_append, List.drop_of_length_le (by omega), List.nil_append, hY]
    have l2 : ((digH n).take (t - 32) ++ Y.drop (t - 32)).length = 32 := by
      rw [List.length_append, List.length_take, List.length_drop]
      omega
    have e2 : (tear (secB n) (Y ++ Y) t).drop 32 = (digH n).take (t - 32) ++ Y.drop (t - 32) := by rw [e, ← hX, List.drop_left]
    have e1 : rdH (tear (secB n) (Y ++ Y) t) = n := by rw [e]; exact rdH_dig n _ hn
    by_cases hq : rdH (tear (secB n) (Y ++ Y) t) = rdH ((tear (secB n) (Y ++ Y) t).drop 32)
    · right; right
      refine ⟨by unfold toldOf; rw [if_pos hq, e1], ?_⟩
      have hz : digH n = (digH n).take (t - 32) ++ Y.drop (t - 32) := by
        apply rdH_inj hX l2
        rw [← e2, ← hq, e1]
        have := rdH_dig n [] hn
        rwa [List.append_nil] at this
      rw [e, ← hz]
      rfl
    · right; left
      unfold toldOf
      rw [if_neg hq]
end Go.Proofs.Ytbfhlleipeipbaa

/- What is proved: what a Set that is cut off leaves of the cell's sectors, and what Open's mending turns of them. Conditions: those in each statement. -/
namespace Go.Proofs.Ytbfhlleipeipbaa
open Go.RowKit Go.Lib Go.Sort

theorem told_nobuf {d : D} (h : d.buf = []) (i : Nat) : d.told i = d.last[i]?.getD [] := told_other (by rw [h]; intro p hp; cases hp)
theorem cSt_nobuf {d : D} (h : d.buf = []) (k t : Int) (i : Nat) : (d.cSt k t).told i = d.told i := by
  rw [cSt_other (by rw [h]; intro p hp; cases hp), told_nobuf h]
theorem tear_none (X Y : List UInt8) : tear X Y 0 = Y := by unfold tear; simp
theorem tear_all {X Y : List UInt8} (hX : X.length = 64) (hY : Y.length = 64) : tear X Y 64 = X := by
  unfold tear
  rw [List.take_of_length_le (by omega), List.drop_of_length_le (by omega), List.append_nil]
/-- Set on a disk on which nothing waits, and a crash behind it -/
theorem set_cut {d : D} {h : H4} (hok : d.Ok) (hb : d.buf = []) (hN : 2 ≤ d.last.length) (ht : h.t < 4611686018427387904) (a e c : Int) :
    ∃ p : Nat, p < 2 ∧ placeOf (h.t + 1) = (p : Int) ∧
      ((setErr d h a e c = 0 ∧ (setSt d h a e c).buf = [] ∧ (setSt d h a e c).told p = secB (nextH h a e c) ∧ ∀ i, i ≠ p → (setSt d h a e c).told i = d.told i) ∨
       (setErr d h a e c = 32 ∧ ∀ k t, (∀ i, i ≠ p → ((setSt d h a e c).cSt k t).told i = d.told i) ∧ ∃ τ, τ ≤ 64 ∧ ((setSt d h a e c).cSt k t).told p = tear (secB (nextH h a e c)) (d.told p) τ)) := by
  obtain ⟨p, hp, ep⟩ := placeOf_nat (h.t + 1)
  refine ⟨p, hp, ep, ?_⟩
  by_cases hl : d.left = 0
  · have hr : d.refuse (p : Int) = 32 := by unfold D.refuse; rw [if_pos hl]
    have hw : d.wErr (p : Int) 64 = 32 := by unfold D.wErr; rw [if_pos (by rw [hr]; decide), hr]
    have hE : setErr d h a e c = 32 := by unfold setErr; rw [if_neg (by omega), ep, if_pos (by rw [hw]; decide), hw]
    have hS : setSt d h a e c = d := by
      unfold setSt
      rw [if_neg (by omega), ep, if_pos (by rw [hw]; decide)]
      unfold D.wSt
      rw [if_pos (by rw [hr]; decide)]
    refine .inr ⟨hE, fun k t => ?_⟩
    rw [hS]
    exact ⟨fun i _ => cSt_nobuf hb k t i, 0, by omega, by rw [cSt_nobuf hb, tear_none]⟩
  · have hr : d.refuse (p : Int) = 0 := by unfold D.refuse; rw [if_neg hl, if_neg (by omega)]
    have hw : d.wErr (p : Int) 64 = 0 := by unfold D.wErr; rw [if_neg (fun k => k hr), if_neg (by omega)]
    have hW : d.wSt (p : Int) (secB (nextH h a e c)) = ⟨d.last, [(p, secB (nextH h a e c))], tick d.left⟩ := by
      unfold D.wSt
      rw [if_neg (fun k => k hr), if_neg (by rw [secB_length]; omega), hb, pad_sec]
      rfl
    have hE : setErr d h a e c = (⟨d.last, [(p, secB (nextH h a e c))], tick d.left⟩ : D).fErr := by unfold setErr; rw [if_neg (by omega), ep, if_neg (fun k => k hw), hW]
    have hS : setSt d h a e c = (⟨d.last, [(p, secB (nextH h a e c))], tick d.left⟩ : D).fSt := by unfold setSt; rw [if_neg (by omega), ep, if_neg (fun k => k hw), hW]
    have hold : d.told p = d.last[p]?.getD [] := told_nobuf hb p
    have hol : (d.told p).length = 64 := hok.told_len (by omega)
    by_cases htk : tick d.left = 0
    · refine .inr ⟨by rw [hE]; unfold D.fErr; rw [if_pos htk], fun k t => ?_⟩
      rw [hS, fSt_dead htk]
      refine ⟨fun i hi => ?_, ?_⟩
      · rw [cSt_other (by intro q hq; obtain rfl := List.mem_singleton.1 hq; exact fun e => hi e.symm), told_nobuf hb]
      · by_cases hk : clampN k 1 = 0
        · refine ⟨clampN t 64, by unfold clampN; omega, ?_⟩
          show ((settle (D.cLast _ k t) [])[p]?).getD [] = _
          rw [show settle (D.cLast _ k t) [] = D.cLast _ k t from rfl]
          unfold D.cLast
          simp only [List.length_singleton, hk, List.getElem?_cons_zero, List.take_zero]
          rw [show settle d.last [] = d.last from rfl, List.getElem?_set_self (by omega), hold]
          rfl
        · have hk1 : clampN k 1 = 1 := by unfold clampN at hk ⊢; omega
          refine ⟨64, Nat.le_refl _, ?_⟩
          rw [tear_all (secB_length _) hol]
          show ((settle (D.cLast _ k t) [])[p]?).getD [] = _
          rw [show settle (D.cLast _ k t) [] = D.cLast _ k t from rfl]
          unfold D.cLast
          simp only [List.length_singleton, hk1]
          show ((settle d.last [(p, secB (nextH h a e c))])[p]?).getD [] = _
          rw [show settle d.last [(p, secB (nextH h a e c))] = d.last.set p (secB (nextH h a e c)) from rfl, List.getElem?_set_self (by omega)]
          rfl
    · have hF : (⟨d.last, [(p, secB (nextH h a e c))], tick d.left⟩ : D).fSt = ⟨d.last.set p (secB (nextH h a e c)), [], tick (tick d.left)⟩ := by unfold D.fSt; rw [if_neg htk]; rfl
      refine .inl ⟨by rw [hE]; unfold D.fErr; rw [if_neg htk], by rw [hS, hF], ?_, fun i hi => ?_⟩
      · rw [hS, hF, told_nobuf rfl]
        simp only
        rw [List.getElem?_set_self (by omega)]
        rfl
      · rw [hS, hF, told_nobuf rfl, told_nobuf hb]
        simp only
        rw [List.getElem?_set_ne (fun e => hi e.symm)]
/-- the sector of the value's own turn tells it -/
def Own (d : D) (h : H4) : Prop := h.t = 0 ∨ ∀ q : Nat, placeOf h.t = (q : Int) → d.told q = secB h
/-- the cell behind a Set that was cut off -/
theorem open_torn {d d' : D} {h n : H4} {p : Nat} (hp : p < 2) (ho : openH d = h) (hown : Own d h) (h0 : 0 ≤ h.t) (hin : h.In) (hn : n.In) (hnt : n.t = h.t + 1) (hpl : placeOf (h.t + 1) = (p : Int)) {Y : List UInt8} (hY : Y.length = 32) (hd : d.told p = Y ++ Y) (hsame : ∀ i, i ≠ p → d'.told i = d.told i) (τ : Nat) (hτ : τ ≤ 64) (ht : d'.told p = tear (secB n) (d.told p) τ) :
    (openH d' = h ∧ Own d' h) ∨ (openH d' = n ∧ d'.told p = secB n) := by
  have k1 := pick_t H4.zero (toldOf (d.told 0))
  have k2 := pick_t (pickH H4.zero (toldOf (d.told 0))) (toldOf (d.told 1))
  rw [← openH_eq, ho] at k2
  have hz : H4.zero.t = 0 := rfl
  have hq : ∀ q : Nat, placeOf h.t = (q : Int) → q ≠ p := by
    intro q hq e
    subst e
    rw [← hpl] at hq
    unfold placeOf at hq
    split at hq <;> split at hq <;> omega
  have hown' : Own d' h := by
    rcases hown with h1 | h1
    · exact .inl h1
    · exact .inr fun q e => by rw [hsame q (hq q e)]; exact h1 q e
  have key : ∀ v : H4, toldOf (d'.told p) = v → openH d' = pickH (pickH H4.zero (if p = 0 then v else toldOf (d.told 0))) (if p = 0 then toldOf (d.told 1) else v) := by
    intro v hv
    rw [openH_eq]
    rcases (show p = 0 ∨ p = 1 by omega) with rfl | rfl
    · rw [hv, hsame 1 (by omega), if_pos rfl, if_pos rfl]
    · rw [hv, hsame 0 (by omega), if_neg (by omega), if_neg (by omega)]
  rw [hd] at ht
  obtain ⟨_, hc⟩ := tear_told hY n hn τ hτ
  rw [← ht] at hc
  rcases hc with hc | hc | ⟨hc, hc2⟩
  · left
    refine ⟨?_, hown'⟩
    rw [key _ hc, ← hd, ← ho, openH_eq]
    rcases (show p = 0 ∨ p = 1 by omega) with rfl | rfl
    · rw [if_pos rfl, if_pos rfl]
    · rw [if_neg (by omega), if_neg (by omega)]
  · left
    refine ⟨?_, hown'⟩
    rw [key _ hc]
    rcases hown with h1 | h1
    · have hh : h = H4.zero := by
        rw [← ho, openH_eq, pickH_le (h := H4.zero) (by omega), pickH_le (by omega)]
      rcases (show p = 0 ∨ p = 1 by omega) with rfl | rfl
      · rw [if_pos rfl, if_pos rfl, pickH_le (h := H4.zero) (by omega), pickH_le (by omega), hh]
      · rw [if_neg (by omega), if_neg (by omega), pickH_le (h := H4.zero) (by omega), pickH_le (by omega), hh]
    · by_cases ht0 : h.t = 0
      · have hh : h = H4.zero := by
          rw [← ho, openH_eq, pickH_le (h := H4.zero) (by omega), pickH_le (by omega)]
        rcases (show p = 0 ∨ p = 1 by omega) with rfl | rfl
        · rw [if_pos rfl, if_pos rfl, pickH_le (h := H4.zero) (by omega), pickH_le (by omega), hh]
        · rw [if_neg (by omega), if_neg (by omega), pickH_le (h := H4.zero) (by omega), pickH_le (by omega), hh]
      · obtain ⟨q, hq2, eq⟩ := placeOf_nat h.t
        have hqt := h1 q eq
        have hne := hq q eq
        have hto : toldOf (d.told q) = h := by rw [hqt]; exact toldOf_sec h hin
        rcases (show p = 0 ∨ p = 1 by omega) with rfl | rfl
        · obtain rfl : q = 1 := by omega
          rw [if_pos rfl, if_pos rfl, hto, pickH_le (h := H4.zero) (by omega), pickH_gt (by omega)]
        · obtain rfl : q = 0 := by omega
          rw [if_neg (by omega), if_neg (by omega), hto, pickH_gt (h := H4.zero) (by omega), pickH_le (by omega)]
  · right
    refine ⟨?_, hc2⟩
    rw [key _ hc]
    rcases (show p = 0 ∨ p = 1 by omega) with rfl | rfl
    · rw [if_pos rfl, if_pos rfl, pickH_gt (h := H4.zero) (by omega), pickH_le (by omega)]
    · rw [if_neg (by omega), if_neg (by omega), pickH_gt (by omega)]
end Go.Proofs.Ytbfhlleipeipbaa

/- What is proved: what a Commit that is cut off anywhere, and a crash behind it, leave of a store's sectors: all of the batch or nothing of it. Conditions: those in each statement. -/
namespace Go.Proofs.Ytbfhlleipeipbaa
open Go.RowKit Go.Lib Go.Sort

/-! ### mending -/
def Whole (d : D) : Prop := ∀ i, i < 2 → (d.told i).take 32 = (d.told i).drop 32
theorem pad_nil : pad [] = zer := by unfold pad zer; simp
theorem torn_zero {l : List UInt8} (hl : l.length = 64) (h : ¬ l.take 32 = l.drop 32) : toldOf l = H4.zero := by
  unfold toldOf
  rw [if_neg]
  intro e
  apply h
  apply rdH_inj (by rw [List.length_take]; omega) (by rw [List.length_drop]; omega)
  rw [← e]
  have := rdH_append (A := l.take 32) (by rw [List.length_take]; omega) (l.drop 32)
  rw [List.take_append_drop] at this
  exact this.symm
theorem mendS_facts {s : D} (hok : s.Ok) (hl : s.left < 0) (hb : s.buf = []) (i : Nat) (hi : i < s.last.length) :
    (mendS s i).Ok ∧ (mendS s i).left = s.left ∧ (mendS s i).buf = [] ∧ (mendS s i).last.length = s.last.length ∧ (∀ j, j ≠ i → (mendS s i).told j = s.told j) ∧ toldOf ((mendS s i).told i) = toldOf (s.told i) ∧ ((mendS s i).told i).take 32 = ((mendS s i).told i).drop 32 ∧ (∀ h, s.told i = secB h → (mendS s i).told i = secB h) := by
  by_cases he : (s.told i).take 32 = (s.told i).drop 32
  · have e : mendS s i = s := by unfold mendS; rw [if_pos he]
    rw [e]
    exact ⟨hok, rfl, hb, rfl, fun _ _ => rfl, rfl, he, fun _ h => h⟩
  · have e : mendS s i = (s.wSt (i : Int) []).fSt := by unfold mendS; rw [if_neg he]
    obtain ⟨m1, m2, m3⟩ := mendS_ok s hl i hi
    have hr : s.refuse (i : Int) = 0 := by unfold D.refuse; rw [if_neg (by omega), if_neg (by omega)]
    have ht : (mendS s i).told i = zer := by rw [e, told_fSt, told_wSt_self hr (by simp) hi, pad_nil]
    have hlen := hok.told_len hi
    refine ⟨by rw [e]; exact (hok.wSt _ _).fSt, m1, List.eq_nil_of_length_eq_zero (by rw [hb] at m3; simpa using m3), m2, fun j hj => by rw [e, told_fSt, told_wSt_other _ _ _ _ (by simpa using hj)], ?_, ?_, fun h hs => ?_⟩
    · rw [ht, toldOf_zer, torn_zero hlen he]
    · rw [ht]; rfl
    · exfalso
      apply he
      rw [hs]
      unfold secB
      rw [← digH_length h, List.take_left, List.drop_left]
theorem mend_facts {s : D} (hok : s.Ok) (hl : s.left < 0) (hb : s.buf = []) (hN : 2 ≤ s.last.length) :
    (mend s).Ok ∧ (mend s).left < 0 ∧ (mend s).buf = [] ∧ (mend s).last.length = s.last.length ∧ (∀ j, 2 ≤ j → (mend s).told j = s.told j) ∧ openH (mend s) = openH s ∧ Whole (mend s) ∧ (∀ i h, i < 2 → s.told i = secB h → (mend s).told i = secB h) := by
  obtain ⟨a1, a2, a3, a4, a5, a6, a7, a8⟩ := mendS_facts hok hl hb 0 (by omega)
  obtain ⟨b1, b2, b3, b4, b5, b6, b7, b8⟩ := mendS_facts a1 (by rw [a2]; exact hl) a3 1 (by rw [a4]; omega)
  have e : mend s = mendS (mendS s 0) 1 := by unfold mend; rw [mendP_succ, mendP_succ, mendP_zero]
  rw [e]
  refine ⟨b1, by rw [b2, a2]; exact hl, b3, b4.trans a4, fun j hj => by rw [b5 j (by omega), a5 j (by omega)], ?_, fun i hi => ?_, fun i h hi hs => ?_⟩
  · rw [openH_eq, openH_eq, b5 0 (by omega), a6, b6, a5 1 (by omega)]
  · rcases (show i = 0 ∨ i = 1 by omega) with rfl | rfl
    · rw [b5 0 (by omega)]; exact a7
    · exact b7
  · rcases (show i = 0 ∨ i = 1 by omega) with rfl | rfl
    · rw [b5 0 (by omega)]; exact a8 h hs
    · exact b8 h (by rw [a5 1 (by omega)]; exact hs)
theorem Has.same {x : JS} {fs : List (List UInt8)} (h : Has x fs) {d : D} (hd : d.Ok) (hl : d.last.length = x.d.last.length) (ht : ∀ i, x.fr ≤ i → i < x.to → d.told i = x.d.told i) : Has ⟨d, x.fr, x.to, x.en, x.cn⟩ fs := by
  obtain ⟨a1, a2, a3, a4⟩ := h.ok
  refine ⟨⟨a1, by simp only [hl]; exact a2, a3, a4⟩, hd, ?_, h.cn, h.short⟩
  show d.area x.fr x.en = _
  rw [← h.area]
  unfold D.area D.bytes
  congr 2
  apply List.map_congr_left
  intro i hi
  have := List.mem_range.1 hi
  exact ht _ (by omega) (by omega)
/-- what is opened behind a crash, mended -/
theorem Rep.mended {N T : Nat} {x : SS} {a en cn : Nat} {bs : List (List Cg)} (h : Rep N T x a en cn bs) (hN : 4 ≤ N) (hown : Own x.d x.h) : Rep N T ⟨mend x.d, x.h, x.P, false⟩ a en cn bs ∧ Own (mend x.d) x.h ∧ Whole (mend x.d) := by
  have hv := h.inv
  obtain ⟨m1, m2, m3, m4, m5, m6, m7, m8⟩ := mend_facts h.has.dok hv.lft hv.buf (by show 2 ≤ x.d.last.length; rw [hv.len]; omega)
  have m4' : (mend x.d).last.length = x.d.last.length := m4
  refine ⟨⟨⟨m2, m3, m4'.trans hv.len, hv.tn, hv.ha, hv.he, hv.hc, hv.a1, hv.lo, hv.ct, hv.asc, rfl⟩, m6.trans h.cell, ?_, h.all, h.live, h.nrm⟩, ?_, m7⟩
  · have := h.has.same (d := mend x.d) m1 m4 (fun i hi _ => m5 i (Nat.le_trans (areaJ_fr _ _ _ _) hi))
    unfold areaJ at this ⊢
    simp only [m4']
    exact this
  · rcases hown with h1 | h1
    · exact .inl h1
    · refine .inr fun q e => m8 q x.h ?_ (h1 q e)
      obtain ⟨p, hp, ep⟩ := placeOf_nat x.h.t
      omega
end Go.Proofs.Ytbfhlleipeipbaa

/- What is proved: what a Commit that is cut off anywhere, and a crash behind it, leave of a store's sectors: all of the batch or nothing of it. Conditions: those in each statement. -/
namespace Go.Proofs.Ytbfhlleipeipbaa
open Go.RowKit Go.Lib Go.Sort

theorem err_ways (x : JS) (b : List UInt8) : full (x.err b) ∨ x.err b = 0 ∨ x.err b = 32 := by
  unfold JS.err full
  split
  · exact .inl (.inr rfl)
  · split
    · exact .inl (.inl rfl)
    · split
      · exact .inr (.inr rfl)
      · unfold D.fErr
        split
        · exact .inr (.inr rfl)
        · exact .inr (.inl rfl)
theorem err_fits {x : JS} {b : List UInt8} (h : ¬ full (x.err b)) : b.length ≤ 1048576 ∧ x.en + 16 + b.length ≤ 64 * (x.to - x.fr) := by
  unfold JS.err full at h
  by_cases h1 : 1048576 < b.length
  · rw [if_pos h1] at h; omega
  · rw [if_neg h1] at h
    by_cases h2 : 64 * (x.to - x.fr) < x.en + 16 + b.length
    · rw [if_pos h2] at h; omega
    · omega
/-- what an Append to a journal, done or not, leaves of it -/
theorem Has.cut {x : JS} {fs : List (List UInt8)} (h : Has x fs) (hbuf : x.d.buf = []) {b : List UInt8} (hf : ¬ full (x.err b)) :
    (x.err b = 0 ∧ Has (x.app b) (fs ++ [b]) ∧ (x.app b).d.buf = [] ∧ x.app b = ⟨(x.app b).d, x.fr, x.to, x.en + 16 + b.length, x.cn + 1⟩ ∧ Has ⟨(x.app b).d, x.fr, x.to, x.en, x.cn⟩ fs) ∨
    (x.err b = 32 ∧ ∀ k t, Has ⟨(x.app b).d.cSt k t, x.fr, x.to, x.en, x.cn⟩ fs) := by
  obtain ⟨f1, f2⟩ := err_fits hf
  by_cases hl : x.d.left = 0
  · right
    have hE : x.err b = 32 := by unfold JS.err; rw [if_neg (by omega), if_neg (by omega), if_pos hl]
    have hA : x.app b = x := by unfold JS.app; rw [if_neg (by omega), if_neg (by omega), if_pos hl]
    exact ⟨hE, fun k t => by rw [hA]; exact h.crash hbuf k t⟩
  · rcases h.append hbuf f1 f2 hl with hh | ⟨h1, _, h3⟩
    · exact .inl hh
    · exact .inr ⟨h1, h3⟩
theorem app_ok {x : JS} (h : x.d.Ok) (b : List UInt8) : (x.app b).d.Ok := by
  have hw : (x.wr b).fSt.Ok := (appW_ok h _ _ _).fSt
  unfold JS.app
  split
  · exact h
  · split
    · exact h
    · split
      · exact h
      · split
        · exact hw
        · exact hw
/-- the journal that a Commit lays, on a disk that is armed or not -/
theorem lay_cut {N : Nat} {d : D} {a en cn : Nat} {bs : List (List Cg)} {P : List Cg} (hN : 4 ≤ N) (ha1 : a ≤ 1) (hlen : d.last.length = N) (hbuf : d.buf = []) (hh : Has (areaJ d a en cn) (bs.map batB)) (hall : allC [] bs.flatten = P) (hasc : Asc P) (hlive : Live P) (hnrm : ∀ b ∈ bs, ∀ y ∈ b, norm y = y) (l : List Cg) :
    (comE1 d a en cn P l = 51 ∧ (comL d a en cn P l).d = d) ∨
    (comE1 d a en cn P l = 32 ∧ ∀ k t, (∀ i, i < 2 → ((comL d a en cn P l).d.cSt k t).told i = d.told i) ∧ Has (areaJ ((comL d a en cn P l).d.cSt k t) a en cn) (bs.map batB)) ∨
    (comE1 d a en cn P l = 0 ∧ (comL d a en cn P l).d.buf = [] ∧ (∀ i, i < 2 → (comL d a en cn P l).d.told i = d.told i) ∧ Has (areaJ (comL d a en cn P l).d a en cn) (bs.map batB) ∧
      ∃ bs' : List (List Cg), Has (comL d a en cn P l) (bs'.map batB) ∧ (comL d a en cn P l).fr = frA N (comA d a en cn l) ∧ (comL d a en cn P l).to = frA N (comA d a en cn l) + hlf N ∧ allC [] bs'.flatten = allC P l ∧ ∀ b ∈ bs', ∀ y ∈ b, norm y = y) := by
  obtain ⟨f1, f2, f3⟩ := layJ_fields d a en cn (batB l) (batB (allC P l))
  rw [hlen] at f1 f2
  have f3' : (comL d a en cn P l).d.last.length = d.last.length := f3
  have hfrA : (areaJ d a en cn).fr = frA N a := by show frA d.last.length a = _; rw [hlen]
  have htoA : (areaJ d a en cn).to = frA N a + hlf N := by show frA d.last.length a + hlf d.last.length = _; rw [hlen]
  by_cases hfu : full ((areaJ d a en cn).err (batB l))
  · -- the other area
    have hL : comL d a en cn P l = (areaJ d (1 - a) 0 0).app (batB (allC P l)) := by unfold comL layJ; rw [if_pos hfu]
    have hz : Has (areaJ d (1 - a) 0 0) [] := Has.zero (s := d) hh.dok (Nat.le_add_right _ _) (by rw [hlen]; exact frA_in (a := 1 - a) hN (by omega))
    have hfrB : (areaJ d (1 - a) 0 0).fr = frA N (1 - a) := by show frA d.last.length (1 - a) = _; rw [hlen]
    have htoB : (areaJ d (1 - a) 0 0).to = frA N (1 - a) + hlf N := by show frA d.last.length (1 - a) + hlf d.last.length = _; rw [hlen]
    have apart : ∀ i, frA N a ≤ i → i < frA N a + hlf N → i < (areaJ d (1 - a) 0 0).fr ∨ (areaJ d (1 - a) 0 0).to ≤ i := by
      intro i h1 h2
      rw [hfrB, htoB]
      rcases (show a = 0 ∨ a = 1 by omega) with rfl | rfl
      · left
        unfold frA at *
        simp only [Nat.sub_zero, Nat.zero_mul, Nat.one_mul] at *
        omega
      · right
        unfold frA at *
        simp only [Nat.sub_self, Nat.zero_mul, Nat.one_mul] at *
        omega
    by_cases hfu2 : full ((areaJ d (1 - a) 0 0).err (batB (allC P l)))
    · left
      refine ⟨by unfold comE1 layE; rw [if_pos hfu, if_pos hfu2], ?_⟩
      rw [hL, full_app hfu2]
      rfl
    · right
      have hE : comE1 d a en cn P l = (areaJ d (1 - a) 0 0).err (batB (allC P l)) := by unfold comE1 layE; rw [if_pos hfu, if_neg hfu2]
      have out := fun i hi => app_out (x := areaJ d (1 - a) 0 0) hz.ok hbuf (batB (allC P l)) (i := i) hi
      rcases hz.cut (b := batB (allC P l)) hbuf hfu2 with ⟨k1, k2, k3, _, _⟩ | ⟨k1, k2⟩
      · right
        refine ⟨hE.trans k1, by rw [hL]; exact k3, fun i hi => ?_, ?_, [allC P l], by rw [hL]; exact k2, f1, f2, ?_, fun b hb y hy => ?_⟩
        · rw [hL]
          exact (out i (.inl (Nat.lt_of_lt_of_le hi (areaJ_fr _ _ _ _)))).1
        · have := hh.same (d := (comL d a en cn P l).d) (by rw [hL]; exact k2.dok) f3' (fun i h1 h2 => by rw [hL]; exact (out i (apart i (by rw [← hfrA]; exact h1) (by rw [← htoA]; exact h2))).1)
          unfold areaJ at this ⊢
          simp only [f3']
          exact this
        · rw [List.flatten_singleton]
          exact allC_snap (allC_asc hasc) (allC_live l P hlive hasc)
        · obtain rfl := List.mem_singleton.1 hb
          exact live_norm (allC_live l P hlive hasc) y hy
      · left
        refine ⟨hE.trans k1, fun k t => ⟨fun i hi => ?_, ?_⟩⟩
        · rw [hL]
          exact (out i (.inl (Nat.lt_of_lt_of_le hi (areaJ_fr _ _ _ _)))).2 k t
        · have hok2 := (k2 k t).dok
          have hl2 : ((comL d a en cn P l).d.cSt k t).last.length = d.last.length := ((by rw [hL]; exact app_ok hz.dok _ : (comL d a en cn P l).d.Ok).cLast_ok k t).2.trans f3'
          have := hh.same (d := (comL d a en cn P l).d.cSt k t) (by rw [hL]; exact hok2) hl2 (fun i h1 h2 => by rw [hL]; exact (out i (apart i (by rw [← hfrA]; exact h1) (by rw [← htoA]; exact h2))).2 k t)
          unfold areaJ at this ⊢
          simp only [hl2]
          exact this
  · -- the same area
    have hL : comL d a en cn P l = (areaJ d a en cn).app (batB l) := by unfold comL layJ; rw [if_neg hfu]
    have hE : comE1 d a en cn P l = (areaJ d a en cn).err (batB l) := by unfold comE1 layE; rw [if_neg hfu]
    have out := fun i hi => app_out (x := areaJ d a en cn) hh.ok hbuf (batB l) (i := i) hi
    right
    rcases hh.cut (b := batB l) hbuf hfu with ⟨k1, k2, k3, _, k5⟩ | ⟨k1, k2⟩
    · right
      refine ⟨hE.trans k1, by rw [hL]; exact k3, fun i hi => ?_, ?_, bs ++ [l.map norm], by rw [hL, List.map_append, List.map_singleton, batB_norm]; exact k2, f1, f2, ?_, fun b hb y hy => ?_⟩
      · rw [hL]
        exact (out i (.inl (Nat.lt_of_lt_of_le hi (areaJ_fr _ _ _ _)))).1
      · rw [← hL] at k5
        unfold areaJ at k5 ⊢
        simp only [f3']
        exact k5
      · rw [List.flatten_append, allC_append, hall, List.flatten_singleton, allC_norm]
      · rcases List.mem_append.1 hb with hb | hb
        · exact hnrm b hb y hy
        · obtain rfl := List.mem_singleton.1 hb
          obtain ⟨z, _, rfl⟩ := List.mem_map.1 hy
          exact norm_norm z
    · left
      refine ⟨hE.trans k1, fun k t => ⟨fun i hi => ?_, ?_⟩⟩
      · rw [hL]
        exact (out i (.inl (Nat.lt_of_lt_of_le hi (areaJ_fr _ _ _ _)))).2 k t
      · have hk := k2 k t
        rw [← hL] at hk
        have hl2 : ((comL d a en cn P l).d.cSt k t).last.length = d.last.length := ((by rw [hL]; exact app_ok hh.dok _ : (comL d a en cn P l).d.Ok).cLast_ok k t).2.trans f3'
        unfold areaJ at hk ⊢
        simp only [hl2]
        exact hk
end Go.Proofs.Ytbfhlleipeipbaa

/- What is proved: whatever the power does while a batch is committed, the sectors hold all of it or nothing of it, and all batches ahead. Conditions: those in each statement. -/
namespace Go.Proofs.Ytbfhlleipeipbaa
open Go.RowKit Go.Lib Go.Sort

theorem openH_new {d d' : D} {h n : H4} {p : Nat} (hp : p < 2) (ho : openH d = h) (_h0 : 0 ≤ h.t) (hn : n.In) (hnt : n.t = h.t + 1) (hsame : ∀ i, i < 2 → i ≠ p → d'.told i = d.told i) (ht : d'.told p = secB n) : openH d' = n := by
  have k1 := pick_t H4.zero (toldOf (d.told 0))
  have k2 := pick_t (pickH H4.zero (toldOf (d.told 0))) (toldOf (d.told 1))
  rw [← openH_eq, ho] at k2
  have hz : H4.zero.t = 0 := rfl
  rw [openH_eq]
  rcases (show p = 0 ∨ p = 1 by omega) with rfl | rfl
  · rw [ht, hsame 1 (by omega) (by omega), toldOf_sec _ hn, pickH_gt (h := H4.zero) (by omega), pickH_le (by omega)]
  · rw [ht, hsame 0 (by omega) (by omega), toldOf_sec _ hn, pickH_gt (by omega)]
/-- the old pairs are there -/
theorem Rep.old {N T : Nat} {x : SS} {a en cn : Nat} {bs : List (List Cg)} (h : Rep N T x a en cn bs) {d2 : D} (hl : d2.left < 0) (hb : d2.buf = []) (hlen : d2.last.length = N) (ho : openH d2 = x.h) (hh : Has (areaJ d2 a en cn) (bs.map batB)) : Rep N T ⟨d2, openH d2, x.P, false⟩ a en cn bs := by
  have hv := h.inv
  exact ⟨⟨hl, hb, hlen, by show (openH d2).t = _; rw [ho]; exact hv.tn, by show (openH d2).a = _; rw [ho]; exact hv.ha, by show (openH d2).e = _; rw [ho]; exact hv.he, by show (openH d2).c = _; rw [ho]; exact hv.hc, hv.a1, hv.lo, hv.ct, hv.asc, rfl⟩, rfl, hh, h.all, h.live, h.nrm⟩
theorem cSt_up (d : D) (k t : Int) : (d.cSt k t).left < 0 ∧ (d.cSt k t).buf = [] := ⟨by show (-1 : Int) < 0; omega, rfl⟩
/-- what a Commit that may be cut off tells, and what a crash behind it leaves -/
structure CutOut (N T : Nat) (x : SS) (l : List Cg) (E : Int) (P1 : List Cg) (d1 : D) : Prop where
  er : E = 0 ∨ E = 32 ∨ E = 51
  yes : E = 0 → P1 = allC x.P l
  no : E ≠ 0 → P1 = x.P
  crash : ∀ k t, ∃ T' a' en' cn' bs' P', T' ≤ T + 1 ∧ Rep N T' ⟨d1.cSt k t, openH (d1.cSt k t), P', false⟩ a' en' cn' bs' ∧ Own (d1.cSt k t) (openH (d1.cSt k t)) ∧ (P' = allC x.P l ∨ P' = x.P) ∧ (E = 0 → P' = allC x.P l) ∧ (E = 51 → P' = x.P)
theorem Rep.cut {N T : Nat} {x : SS} {a en cn : Nat} {bs : List (List Cg)} (h : Rep N T x a en cn bs) (hN : 4 ≤ N) (hT : T < 4611686018427387904) (hown : Own x.d x.h) (hwh : Whole x.d) (n : Int) (n1 : -9223372036854775808 ≤ n) (n2 : n ≤ 9223372036854775807) (l : List Cg) :
    CutOut N T x l (comE ⟨x.d.aSt n, x.h, x.P, x.st⟩ a en cn l) (comX ⟨x.d.aSt n, x.h, x.P, x.st⟩ a en cn l).P (comX ⟨x.d.aSt n, x.h, x.P, x.st⟩ a en cn l).d := by
  have hv := h.inv
  have hda : x.d.aSt n = ⟨x.d.last, x.d.buf, n⟩ := by unfold D.aSt; rw [if_neg (by have := hv.lft; omega)]
  have hlen : (x.d.aSt n).last.length = N := by rw [hda]; exact hv.len
  have hbuf : (x.d.aSt n).buf = [] := by rw [hda]; exact hv.buf
  have htold : ∀ i, (x.d.aSt n).told i = x.d.told i := by intro i; rw [hda]; rfl
  have hhas : Has (areaJ (x.d.aSt n) a en cn) (bs.map batB) := by
    have := h.has.arm n n1 n2
    unfold areaJ at this ⊢
    rw [hlen]
    simp only [hv.len] at this
    exact this
  have hoa : openH (x.d.aSt n) = x.h := (openH_same fun i _ => htold i).trans h.cell
  have hin : x.h.In := by rw [← h.cell]; exact openH_in _
  have htn := hv.tn
  generalize hX : (⟨x.d.aSt n, x.h, x.P, x.st⟩ : SS) = xa
  have e1 : xa.d = x.d.aSt n := by rw [← hX]
  have e2 : xa.h = x.h := by rw [← hX]
  have e3 : xa.P = x.P := by rw [← hX]
  generalize hda' : x.d.aSt n = da at *
  clear hX hda
  have hP : (comX xa a en cn l).P = (comS xa a en cn l).P := rfl
  have hD : (comX xa a en cn l).d = (comS xa a en cn l).d := rfl
  rw [hP, hD]
  have old : ∀ d2 : D, d2.left < 0 → d2.buf = [] → d2.last.length = N → openH d2 = x.h → Own d2 x.h → Has (areaJ d2 a en cn) (bs.map batB) → Rep N T ⟨d2, openH d2, x.P, false⟩ a en cn bs ∧ Own d2 (openH d2) :=
    fun d2 h1 h2 h3 h4 h5 h6 => ⟨h.old h1 h2 h3 h4 h6, by rw [h4]; exact h5⟩
  have ownS : ∀ d2 : D, (∀ i, i < 2 → d2.told i = x.d.told i) → openH d2 = x.h ∧ Own d2 x.h := fun d2 hs => ⟨(openH_same hs).trans h.cell, by
    rcases hown with h1 | h1
    · exact .inl h1
    · refine .inr fun q e => ?_
      obtain ⟨p, hp, ep⟩ := placeOf_nat x.h.t
      rw [hs q (by omega)]
      exact h1 q e⟩
  rcases lay_cut hN hv.a1 hlen hbuf hhas h.all hv.asc h.live h.nrm l with ⟨k1, k2⟩ | ⟨k1, k2⟩ | ⟨k1, k2, k3, k4, bs', k5, k6, k7, k8, k9⟩
  · -- no room
    have hE : comE xa a en cn l = 51 := by unfold comE; rw [e1, e3, k1, if_pos (by decide)]
    have hS : comS xa a en cn l = ⟨da, x.h, x.P, xa.st⟩ := by unfold comS; rw [e1, e2, e3, k1, if_pos (by decide), k2]
    rw [hE, hS]
    refine ⟨.inr (.inr rfl), (fun h => by cases h), fun _ => rfl, fun k t => ?_⟩
    obtain ⟨u1, u2⟩ := cSt_up da k t
    have hc := hhas.crash hbuf k t
    have hl2 : (da.cSt k t).last.length = N := (hhas.dok.cLast_ok k t).2.trans hlen
    obtain ⟨o1, o2⟩ := ownS (da.cSt k t) (fun i _ => by rw [cSt_nobuf hbuf, htold])
    have hc' : Has (areaJ (da.cSt k t) a en cn) (bs.map batB) := by
      unfold areaJ at hc ⊢
      rw [hl2]
      simp only [hlen] at hc
      exact hc
    obtain ⟨r1, r2⟩ := old _ u1 u2 hl2 o1 o2 hc'
    exact ⟨T, a, en, cn, bs, x.P, by omega, r1, r2, .inr rfl, (fun h => by cases h), fun _ => rfl⟩
  · -- the journal is cut off
    have hE : comE xa a en cn l = 32 := by unfold comE; rw [e1, e3, k1, if_pos (by decide)]
    have hS : comS xa a en cn l = ⟨(comL da a en cn x.P l).d, x.h, x.P, xa.st⟩ := by unfold comS; rw [e1, e2, e3, k1, if_pos (by decide)]
    rw [hE, hS]
    refine ⟨.inr (.inl rfl), (fun h => by cases h), fun _ => rfl, fun k t => ?_⟩
    obtain ⟨c1, c2⟩ := k2 k t
    obtain ⟨u1, u2⟩ := cSt_up (comL da a en cn x.P l).d k t
    have hl2 : ((comL da a en cn x.P l).d.cSt k t).last.length = N := by
      have := c2.ok.dk
      have hf3 := (layJ_fields da a en cn (batB l) (batB (allC x.P l))).2.2
      have hok2 : (comL da a en cn x.P l).d.Ok := by
        show (layJ _ _ _ _ _ _).d.Ok
        unfold layJ
        split
        · exact app_ok (x := areaJ da (1 - a) 0 0) hhas.dok _
        · exact app_ok hhas.dok _
      exact (hok2.cLast_ok k t).2.trans (hf3.trans hlen)
    obtain ⟨o1, o2⟩ := ownS _ (fun i hi => (c1 i hi).trans (htold i))
    obtain ⟨r1, r2⟩ := old _ u1 u2 hl2 o1 o2 c2
    exact ⟨T, a, en, cn, bs, x.P, by omega, r1, r2, .inr rfl, (fun h => by cases h), fun _ => rfl⟩
  · -- the journal is written
    have hf3 : (comL da a en cn x.P l).d.last.length = N := (layJ_fields da a en cn (batB l) (batB (allC x.P l))).2.2.trans hlen
    have hA1 : comA da a en cn l ≤ 1 := by
      have := hv.a1
      unfold comA layA
      split <;> omega
    have hlo : (comL da a en cn x.P l).en ≤ 64 * hlf N := by have := k5.ok.lo; rw [k6, k7] at this; omega
    have hct := k5.ok.ct
    have hmost : N ≤ 65536 := by rw [← hlen]; exact hhas.dok.most
    have hnin : (nextH x.h (comA da a en cn l : Int) ((comL da a en cn x.P l).en : Int) ((comL da a en cn x.P l).cn : Int)).In := by
      unfold hlf at hlo
      unfold H4.In nextH
      simp only
      omega
    obtain ⟨p, hp, hpl, hset⟩ := set_cut (d := (comL da a en cn x.P l).d) (h := x.h) k5.dok k2 (by omega) (by omega) (comA da a en cn l : Int) ((comL da a en cn x.P l).en : Int) ((comL da a en cn x.P l).cn : Int)
    have hEe : comE xa a en cn l = setErr (comL da a en cn x.P l).d x.h (comA da a en cn l : Int) ((comL da a en cn x.P l).en : Int) ((comL da a en cn x.P l).cn : Int) := by unfold comE; rw [e1, e2, e3, k1, if_neg (fun k => k rfl)]
    have hSd : (comS xa a en cn l).d = setSt (comL da a en cn x.P l).d x.h (comA da a en cn l : Int) ((comL da a en cn x.P l).en : Int) ((comL da a en cn x.P l).cn : Int) := by
      unfold comS
      rw [e1, e2, e3, k1, if_neg (fun k => k rfl)]
      split <;> rfl
    have hSP : (comS xa a en cn l).P = if comE xa a en cn l ≠ 0 then x.P else allC x.P l := by
      unfold comS
      rw [e1, e2, e3, k1, if_neg (fun k => k rfl)]
      split <;> rfl
    rw [hSd, hSP, hEe]
    generalize hn0 : nextH x.h (comA da a en cn l : Int) ((comL da a en cn x.P l).en : Int) ((comL da a en cn x.P l).cn : Int) = nx0 at *
    have hnt : nx0.t = x.h.t + 1 := by rw [← hn0]; rfl
    have hna : nx0.a = (comA da a en cn l : Int) := by rw [← hn0]; rfl
    have hne : nx0.e = ((comL da a en cn x.P l).en : Int) := by rw [← hn0]; rfl
    have hnc : nx0.c = ((comL da a en cn x.P l).cn : Int) := by rw [← hn0]; rfl
    have hsl := setSt_len (comL da a en cn x.P l).d x.h (comA da a en cn l : Int) ((comL da a en cn x.P l).en : Int) ((comL da a en cn x.P l).cn : Int)
    have hsok := set_ok k5.dok x.h (comA da a en cn l : Int) ((comL da a en cn x.P l).en : Int) ((comL da a en cn x.P l).cn : Int)
    generalize setSt (comL da a en cn x.P l).d x.h (comA da a en cn l : Int) ((comL da a en cn x.P l).en : Int) ((comL da a en cn x.P l).cn : Int) = ds at *
    generalize setErr (comL da a en cn x.P l).d x.h (comA da a en cn l : Int) ((comL da a en cn x.P l).en : Int) ((comL da a en cn x.P l).cn : Int) = E at *
    have new : ∀ d2 : D, d2.left < 0 → d2.buf = [] → d2.last.length = N → d2.Ok → openH d2 = nx0 → d2.told p = secB nx0 → (∀ i, i ≠ p → d2.told i = (comL da a en cn x.P l).d.told i) →
        Rep N (T + 1) ⟨d2, openH d2, allC x.P l, false⟩ (comA da a en cn l) (comL da a en cn x.P l).en (comL da a en cn x.P l).cn bs' ∧ Own d2 (openH d2) := by
      intro d2 q1 q2 q3 q4 q5 q6 q7
      refine ⟨⟨⟨q1, q2, q3, by show (openH d2).t = _; rw [q5, hnt, htn]; omega, by show (openH d2).a = _; rw [q5, hna], by show (openH d2).e = _; rw [q5, hne], by show (openH d2).c = _; rw [q5, hnc], hA1, hlo, hct, allC_asc hv.asc, rfl⟩, rfl, ?_, k8, allC_live l x.P h.live hv.asc, k9⟩, ?_⟩
      · have := k5.same (d := d2) q4 (q3.trans hf3.symm) (fun i hi _ => q7 i (by rw [k6] at hi; unfold frA at hi; omega))
        rw [k6, k7] at this
        unfold areaJ
        simp only [q3]
        exact this
      · rw [q5]
        refine .inr fun q e => ?_
        rw [hnt, hpl] at e
        obtain rfl : p = q := by omega
        exact q6
    have hoth : ∀ d2 : D, d2.Ok → d2.last.length = N → (∀ i, i ≠ p → d2.told i = (comL da a en cn x.P l).d.told i) → Has (areaJ d2 a en cn) (bs.map batB) := by
      intro d2 q1 q3 q7
      have := k4.same (d := d2) q1 (q3.trans hf3.symm) (fun i hi _ => q7 i (by have := areaJ_fr (comL da a en cn x.P l).d a en cn; omega))
      unfold areaJ at this ⊢
      rw [q3]
      simp only [hf3] at this
      exact this
    have hdsl : ds.last.length = N := hsl.trans hf3
    have hcl : ∀ k t, (ds.cSt k t).last.length = N := fun k t => (hsok.cLast_ok k t).2.trans hdsl
    rcases hset with ⟨s1, s2, s3, s4⟩ | ⟨s1, s2⟩
    · refine ⟨.inl s1, (fun _ => by rw [if_neg (fun k => k s1)]), fun hh => absurd s1 hh, fun k t => ?_⟩
      obtain ⟨u1, u2⟩ := cSt_up ds k t
      have hs : ∀ i, (ds.cSt k t).told i = ds.told i := fun i => cSt_nobuf s2 k t i
      have hop : openH (ds.cSt k t) = nx0 := openH_new hp h.cell (by omega) hnin hnt (fun i hi hne => by rw [hs, s4 i hne, k3 i hi, htold]) (by rw [hs]; exact s3)
      obtain ⟨r1, r2⟩ := new _ u1 u2 (hcl k t) (hsok.cSt k t) hop (by rw [hs]; exact s3) (fun i hi => by rw [hs]; exact s4 i hi)
      exact ⟨T + 1, _, _, _, bs', allC x.P l, Nat.le_refl _, r1, r2, .inl rfl, fun _ => rfl, (fun hh => by rw [s1] at hh; cases hh)⟩
    · refine ⟨.inr (.inl s1), (fun hh => by rw [s1] at hh; cases hh), (fun hh => by rw [if_pos hh]), fun k t => ?_⟩
      obtain ⟨q1, τ, q2, q3⟩ := s2 k t
      obtain ⟨u1, u2⟩ := cSt_up ds k t
      have hD1 : ∀ i, i < 2 → (comL da a en cn x.P l).d.told i = x.d.told i := fun i hi => (k3 i hi).trans (htold i)
      obtain ⟨o1, o2⟩ := ownS _ hD1
      have hw := hwh p hp
      have hlp : (x.d.told p).length = 64 := h.has.dok.told_len (by show p < x.d.last.length; rw [hv.len]; omega)
      have hY : x.d.told p = (x.d.told p).take 32 ++ (x.d.told p).take 32 := by conv => lhs; rw [← List.take_append_drop 32 (x.d.told p), ← hw]
      have hYl : ((x.d.told p).take 32).length = 32 := by rw [List.length_take]; omega
      rcases open_torn (d := (comL da a en cn x.P l).d) (d' := ds.cSt k t) (n := nx0) hp o1 o2 (by omega) hin hnin hnt hpl hYl (by rw [hD1 p hp]; exact hY) q1 τ q2 q3 with ⟨z1, z2⟩ | ⟨z1, z2⟩
      · obtain ⟨r1, r2⟩ := old _ u1 u2 (hcl k t) z1 z2 (hoth _ (hsok.cSt k t) (hcl k t) q1)
        exact ⟨T, a, en, cn, bs, x.P, by omega, r1, r2, .inr rfl, (fun hh => by rw [s1] at hh; cases hh), fun _ => rfl⟩
      · obtain ⟨r1, r2⟩ := new _ u1 u2 (hcl k t) (hsok.cSt k t) z1 z2 q1
        exact ⟨T + 1, _, _, _, bs', allC x.P l, Nat.le_refl _, r1, r2, .inl rfl, fun _ => rfl, (fun hh => by rw [s1] at hh; cases hh)⟩
end Go.Proofs.Ytbfhlleipeipbaa

/- What is proved: what StoreCrash needs beside: its lists, and a store between two crashes. Conditions: those in each statement. -/
namespace Go.Proofs.Ytbfhlleipeipbaa
open Go.RowKit Go.Lib Go.Sort

/-- a batch that comes in: of one without changes it is not said where it lies -/
def LHC (w : World) (A : Option Addr) (n c : Nat) (l : List Cg) : Prop := HC w A n c l ∨ (n = 0 ∧ l = [])
theorem LHC.below {w w' : World} {A : Option Addr} {n c : Nat} {l : List Cg} (h : LHC w A n c l) (hb : Below w.heap.size w w') : LHC w' A n c l := h.imp (fun h => h.below hb) id
theorem LHC.len {w : World} {A : Option Addr} {n c : Nat} {l : List Cg} (h : LHC w A n c l) : l.length = n := by
  rcases h with h | ⟨rfl, rfl⟩
  · exact h.1
  · rfl
/-- batches that come in -/
def Lists (w : World) (B : Option Addr) (L : Nat) (ls : List (List Cg)) : Prop :=
  ls.length = L ∧ (∀ l ∈ ls, ∀ y ∈ l, y.key.size + y.val.size ≤ 1048576) ∧ (0 < L → ∃ b off, B = some ⟨b, off, none⟩ ∧ ∀ j (hj : j < ls.length), ∃ A n c, w.cell? ⟨b, off + j, none⟩ = some (.slice A n c) ∧ LHC w A n c ls[j])
/-- fates that come in -/
def Fates (w : World) (B : Option Addr) (M : Nat) : Prop :=
  0 < M → ∃ b off, B = some ⟨b, off, none⟩ ∧ ∀ j, j < M → ∃ f0 f1 f2 : Int, (-9223372036854775808 ≤ f0 ∧ f0 ≤ 9223372036854775807) ∧ w.cell? ⟨b, off + j * 3, none⟩ = some (.int .i64 f0) ∧ w.cell? ⟨b, off + j * 3 + 1, none⟩ = some (.int .i64 f1) ∧ w.cell? ⟨b, off + j * 3 + 2, none⟩ = some (.int .i64 f2)
theorem Lists.at {w W : World} {B : Option Addr} {L : Nat} {ls : List (List Cg)} (h : Lists w B L ls) (hb : Below w.heap.size w W) {i : Nat} (hi : i < L) : ∃ b off A n c, ∃ hl : i < ls.length, B = some ⟨b, off, none⟩ ∧ W.cell? ⟨b, off + i, none⟩ = some (.slice A n c) ∧ LHC W A n c ls[i] := by
  obtain ⟨h1, _, h3⟩ := h
  obtain ⟨b, off, e, hc⟩ := h3 (by omega)
  have hl : i < ls.length := by rw [h1]; exact hi
  obtain ⟨A, n, c, k1, k2⟩ := hc i hl
  exact ⟨b, off, A, n, c, hl, e, cell_later hb k1, k2.below hb⟩
theorem Fates.at {w W : World} {B : Option Addr} {M : Nat} (h : Fates w B M) (hb : Below w.heap.size w W) {i : Nat} (hi : i < M) : ∃ b off, ∃ f0 f1 f2 : Int, B = some ⟨b, off, none⟩ ∧ (-9223372036854775808 ≤ f0 ∧ f0 ≤ 9223372036854775807) ∧ W.cell? ⟨b, off + i * 3, none⟩ = some (.int .i64 f0) ∧ W.cell? ⟨b, off + i * 3 + 1, none⟩ = some (.int .i64 f1) ∧ W.cell? ⟨b, off + i * 3 + 2, none⟩ = some (.int .i64 f2) := by
  obtain ⟨b, off, e, hc⟩ := h (by omega)
  obtain ⟨f0, f1, f2, k0, k1, k2, k3⟩ := hc i hi
  exact ⟨b, off, f0, f1, f2, e, k0, cell_later hb k1, cell_later hb k2, cell_later hb k3⟩
/-- few pairs, none of them great -/
structure Few (k : Nat) (P : List Cg) : Prop where
  n : P.length ≤ k
  s : ∀ y ∈ P, y.key.size + y.val.size ≤ 1048576
theorem Few.all {k : Nat} {P l : List Cg} (h : Few k P) (ha : Asc P) (hl : Small l) : Few (k + 300) (allC P l) :=
  ⟨by have := allC_len l P; have := h.n; have := hl.n; omega, fun y hy => by
    rcases mem_allC l P ha y hy with h1 | ⟨c, hc, rfl⟩
    · exact h.s y h1
    · exact hl.s c hc⟩
theorem Few.mono {k k' : Nat} {P : List Cg} (h : Few k P) (hk : k ≤ k') : Few k' P := ⟨Nat.le_trans h.n hk, h.s⟩
theorem Few.sized {k : Nat} {P l : List Cg} (h : Few k P) (hk : k ≤ 9000) (ha : Asc P) (hl : Small l) : Sized P l := by
  have hA := h.all ha hl
  have hb := chsB_top 1048576 (allC P l) hA.s
  have h3 : (allC P l).length * (17 + 1048576) ≤ 9300 * (17 + 1048576) := Nat.mul_le_mul_right _ (by have := hA.n; omega)
  have h4 := hl.len
  refine ⟨by rw [batB_length]; omega, fun y hy => Nat.le_trans (hl.s y hy) (by omega), by have := h.n; have := hl.n; omega, by omega, fun y hy => Nat.le_trans (hA.s y hy) (by omega)⟩
/-- a store between two crashes, and what it had -/
structure Bt (w : World) (g N : Nat) (sb cb : Nat) (x : SS) (T a en cn : Nat) (bs : List (List Cg)) (v : Value) (n k : Nat) (W : World) : Prop where
  sm : SMem w W sb cb g x
  rep : Rep N T x a en cn bs
  own : Own x.d x.h
  whole : Whole x.d
  now : W.ownsRow w.heap.size 48 3 v n (chV x.P)
  few : Few k x.P
theorem arm_mine {w0 w : World} {g : Nat} {s : D} (h : Mine w0 w g s) (n : Int) (h1 : -9223372036854775808 ≤ n) (h2 : n ≤ 9223372036854775807) : Calls Try.prog 12 #[.pointer (some ⟨g, 0, none⟩), .int .i64 n] w fun e w' => e = .returned (.tuple #[]) ∧ Mine w0 w' g (s.aSt n) ∧ OthersD w w' := by
  obtain ⟨L, q, hd, hb0, hf⟩ := h
  exact (arm_any w g L q s hd n h1 h2).mono fun e w' ⟨h1, h2⟩ => ⟨h1, Mine.afterD hd hb0 hf h2⟩
theorem SMem.armed {w0 w w' : World} {sb cb g : Nat} {x : SS} (h : SMem w0 w sb cb g x) {n : Int} (hm : Mine w0 w' g (x.d.aSt n)) (ho : OthersD w w') (hl : (x.d.aSt n).last.length = x.d.last.length) : SMem w0 w' sb cb g ⟨x.d.aSt n, x.h, x.P, x.st⟩ := by
  refine ⟨hm, h.cl.othersD ho, ?_, h.lo⟩
  obtain ⟨A, m, c, hs, hp⟩ := h.ex
  refine ⟨A, m, c, ?_, own_othersD hp ho⟩
  show StB w' sb cb g (x.d.aSt n).last.length x.h.a.toNat x.h.e x.h.c _ x.st
  rw [hl]
  exact ho.2 sb _ 82 (0, 0) hs (by decide) (by decide) (by decide)
end Go.Proofs.Ytbfhlleipeipbaa

/- What is proved: how much waits on a disk behind a Commit, and that a Commit may be called on a disk that is armed. Conditions: those in each statement. -/
namespace Go.Proofs.Ytbfhlleipeipbaa
open Go.RowKit Go.Lib Go.Sort

theorem fSt_buf (s : D) : s.fSt.buf.length ≤ s.buf.length := by
  unfold D.fSt
  split
  · exact Nat.le_refl _
  · exact Nat.zero_le _
theorem app_wait {x : JS} (hb : x.d.buf = []) (b : List UInt8) : (x.app b).d.buf.length ≤ 20000 := by
  have h0 : x.d.buf.length ≤ 20000 := by rw [hb]; exact Nat.zero_le _
  unfold JS.app
  by_cases h1 : 1048576 < b.length
  · rw [if_pos h1]; exact h0
  · rw [if_neg h1]
    have hw : (x.wr b).fSt.buf.length ≤ 20000 := by
      have k1 := fSt_buf (x.wr b)
      have k2 := wrs_buf x.d (x.fr + x.en / 64) (x.d.appL (x.fr + x.en / 64) (x.en % 64) b) ((x.en % 64 + 8 + 8 + b.length + 63) / 64)
      have k3 : (x.wr b).buf.length ≤ x.d.buf.length + (x.en % 64 + 8 + 8 + b.length + 63) / 64 := k2
      rw [hb, List.length_nil] at k3
      have k4 := Nat.mod_lt x.en (show 0 < 64 by decide)
      omega
    split
    · exact h0
    · split
      · exact h0
      · split
        · exact hw
        · exact hw
theorem lay_wait {d : D} (hb : d.buf = []) (a en cn : Nat) (b b2 : List UInt8) : (layJ d a en cn b b2).d.buf.length ≤ 20000 := by
  unfold layJ
  split
  · exact app_wait (x := areaJ d (1 - a) 0 0) hb _
  · exact app_wait (x := areaJ d a en cn) hb _
theorem com_wait {x : SS} (hb : x.d.buf = []) (a en cn : Nat) (l : List Cg) : (comX x a en cn l).d.buf.length ≤ 20001 := by
  have h1 := lay_wait hb a en cn (batB l) (batB (allC x.P l))
  have h2 : (comL x.d a en cn x.P l).d.buf.length ≤ 20000 := h1
  have hs : ∀ (h : H4) (e1 e2 e3 : Int), (setSt (comL x.d a en cn x.P l).d h e1 e2 e3).buf.length ≤ 20001 := by
    intro h e1 e2 e3
    unfold setSt
    split
    · omega
    · have k := wSt_buf (comL x.d a en cn x.P l).d (placeOf (h.t + 1)) (secB (nextH h e1 e2 e3))
      split
      · omega
      · have := fSt_buf ((comL x.d a en cn x.P l).d.wSt (placeOf (h.t + 1)) (secB (nextH h e1 e2 e3)))
        omega
  show (comS x a en cn l).d.buf.length ≤ 20001
  unfold comS
  split
  · show (comL x.d a en cn x.P l).d.buf.length ≤ 20001; omega
  · split
    · exact hs _ _ _ _
    · exact hs _ _ _ _
/-- a Commit may be called on a disk that is armed -/
theorem Rep.cmOk {N T : Nat} {x : SS} {a en cn : Nat} {bs : List (List Cg)} (h : Rep N T x a en cn bs) (hN : 4 ≤ N) (n : Int) {l : List Cg} (hs : Sized x.P l) : CmOk ⟨x.d.aSt n, x.h, x.P, x.st⟩ a en cn l := by
  have hv := h.inv
  have hda : x.d.aSt n = ⟨x.d.last, x.d.buf, n⟩ := by unfold D.aSt; rw [if_neg (by have := hv.lft; omega)]
  have hlen : (x.d.aSt n).last.length = N := by rw [hda]; exact hv.len
  have hbuf : (x.d.aSt n).buf = [] := by rw [hda]; exact hv.buf
  obtain ⟨f1, f2, f3⟩ := layJ_fields (x.d.aSt n) a en cn (batB l) (batB (allC x.P l))
  have hw := lay_wait hbuf a en cn (batB l) (batB (allC x.P l))
  exact ⟨hv.ha, hv.he, hv.hc, hv.a1, by show 0 ≤ x.h.t; rw [hv.tn]; omega, areaJ_ok (by rw [hlen]; exact hN) hv.a1 (by rw [hlen]; exact hv.lo) hv.ct, areaJ_ok (by rw [hlen]; exact hN) (by omega) (by omega) (by omega), hv.asc, hs.bl, hs.lv, hs.pn, hs.pb, hs.pv, by show (x.d.aSt n).buf.length ≤ _; rw [hbuf]; exact Nat.zero_le _, Nat.le_trans hw (by omega), f3, f1, f2⟩
theorem cSt_again (d : D) (k t : Int) : (d.cSt k t).cSt 0 0 = d.cSt k t := cSt_same rfl 0 0
/-- what is opened behind the crash -/
theorem Rep.opened {N T : Nat} {d2 : D} {P : List Cg} {a en cn : Nat} {bs : List (List Cg)} {d : D} {k t : Int} (hd : d2 = d.cSt k t) (h : Rep N T ⟨d2, openH d2, P, false⟩ a en cn bs) : OpOk d2 a bs := by
  have := (h.opOk 0 0).1
  subst hd
  rw [show (⟨d.cSt k t, openH (d.cSt k t), P, false⟩ : SS).d = d.cSt k t from rfl, cSt_again] at this
  exact this
end Go.Proofs.Ytbfhlleipeipbaa

/- What is proved: the document's All answers a row of its own element's type. Conditions: those in each statement. -/
namespace Go.Proofs.Ytbfhlleipeipbaa
open Go.RowKit Go.Lib Go.Sort

def AllOwn (w : World) (k : Nat) (l : List Cg) (e : Ending) (w' : World) : Prop := ∃ A n c, e = .returned (.slice A n c) ∧ w'.ownsRow 0 48 3 (.slice A n c) n (chV l) ∧ n ≤ k ∧ Below w.heap.size w w'
set_option maxRecDepth 100000 in
set_option maxHeartbeats 2000000 in
theorem All_own (A B : Option Addr) (n c m d : Nat) (l b : List Cg) (w : World) (h : w.ownsRow 0 48 3 (.slice A n c) n (chV l)) (h2 : HC w B m d b) (hs : (n + m + 1) * 40 ≤ 140737488355328) :
    Calls Try.prog 15 #[.slice A n c, .slice B m d] w (AllOwn w (n + m) (allC l b)) := by
  have H := Lib.hid h
  have HB := Lib.hid h2
  have HM := Lib.hid h2.1
  have HS := Lib.hid hs
  have hmm : m ≤ 140737488355328 := Nat.le_trans (show m ≤ (n + m + 1) * 40 by omega) hs
  clear h h2 hs
  go_enter Try.func15, Try.ntmps15
  go_wp2_with fail
  go_loopg [5, 6] m (fun kx v5 v6 wr => ∃ (j : Nat) (A5 : Option Addr) (n5 c5 : Nat), v5 = .slice A5 n5 c5 ∧ v6 = .int .i64 (j : Int) ∧ j ≤ m ∧ m - j ≤ kx ∧ n5 ≤ n + j ∧ Aside (wr.ownsRow 0 48 3 (.slice A5 n5 c5) n5 (chV (allC l (b.take j)))) ∧ Aside (Below w.heap.size w wr))
  case atStart => exact ⟨0, A, n, c, rfl, rfl, Nat.zero_le _, Nat.le_refl _, Nat.le_refl _, (H.out : Aside _), (Below.refl _ _ : Aside _)⟩
  case round =>
    obtain ⟨j, A5, n5, c5, rfl, rfl, hjm, hkx, hn5, HC5, HW⟩ := hrel
    by_cases hlt : j < m
    · have hltz : (j : Int) < (m : Int) := by omega
      have pj : (0 : Int) ≤ (j : Int) := by omega
      have hjl : j < b.length := by rw [HM.out]; exact hlt
      obtain ⟨b1, o1, eB, hbl, e0, e1, e2⟩ := HB.out.elem j hjl
      have HT := Lib.hid (allC_take (l := l) hjl)
      have hdo := Do_any A5 n5 c5 (allC l (b.take j)) b[j] wr (own_hcG HC5.out).1 (by_all HS.out hlt hn5)
      have hlen := doC_len (allC l (b.take j)) b[j]
      rw [(own_hcG HC5.out).1.1] at hlen
      generalize b[j] = x at *
      obtain ⟨xk, xv, xg⟩ := x
      subst eB
      simp only at e0 e1 e2 hdo
      have d0 := (HW.out.cell (p := ⟨b1, o1 + j * 3, none⟩) hbl).trans e0
      have d1 := (HW.out.cell (p := ⟨b1, o1 + j * 3 + 1, none⟩) hbl).trans e1
      have d2 := (HW.out.cell (p := ⟨b1, o1 + j * 3 + 2, none⟩) hbl).trans e2
      have HL := Lib.hid hlen
      have HDO := Lib.hid hdo
      clear e0 e1 e2 hlen hdo
      go_wp2_with (go_at_call 35; refine HDO.out.mono ?_; rintro e w2 ⟨A6, n6, c6, rfl, ho6, hb6⟩; have HO6 := Lib.hid (own_mono ho6 (Nat.zero_le _)); have B6 := Lib.hid (HW.out.trans (hb6.mono HW.out.size)); clear ho6 hb6)
      have hn6 : n6 ≤ n + (j + 1) := by have h1 := (own_hcG HO6.out).1.1; have h2 := HL.out; omega
      go_roundg (m - (j + 1))
      case measure => omega
      case rel => exact ⟨j + 1, A6, n6, c6, rfl, by go_num, by omega, Nat.le_refl _, hn6, (by rw [HT.out]; exact HO6.out), (B6.out : Aside _)⟩
    · obtain rfl : j = m := by omega
      have hltz : ¬ (j : Int) < (j : Int) := by omega
      have ht : b.take j = b := List.take_of_length_le (by rw [HM.out]; exact Nat.le_refl _)
      have HT := Lib.hid ht
      clear ht
      go_wp2_with fail
      go_ret
      have := HC5.out
      rw [HT.out] at this
      exact ⟨A5, n5, c5, rfl, this, hn5, HW.out⟩
end Go.Proofs.Ytbfhlleipeipbaa

/- What is proved: batch and the document's All at a batch without changes, wherever its slice points. Conditions: those in each statement. -/
namespace Go.Proofs.Ytbfhlleipeipbaa
open Go.RowKit Go.Lib Go.Sort

set_option maxRecDepth 100000 in
set_option maxHeartbeats 2000000 in
theorem batch_nil (A : Option Addr) (c : Nat) (w : World) : Calls Try.prog 14 #[.slice A 0 c] w (UndPost w []) := by
  have hz : ¬ (0 : Int) < 0 := by omega
  go_enter Try.func14, Try.ntmps14
  go_wp2_with fail
  go_loopg [3, 4] 0 (fun kx v3 v4 wr => v3 = .slice none 0 0 ∧ v4 = .int .i64 0 ∧ 0 ≤ kx ∧ wr = w)
  case atStart => exact ⟨rfl, rfl, Nat.le_refl _, rfl⟩
  case round =>
    obtain ⟨rfl, rfl, _, rfl⟩ := hrel
    go_wp2_with fail
    go_ret
    exact ⟨none, 0, 0, rfl, World.ownsRow_nil _ _ _ _, Below.refl _ _⟩
set_option maxRecDepth 100000 in
set_option maxHeartbeats 2000000 in
theorem All_nil (A B : Option Addr) (n c d : Nat) (l : List Cg) (w : World) (h : w.ownsRow 0 48 3 (.slice A n c) n (chV l)) : Calls Try.prog 15 #[.slice A n c, .slice B 0 d] w (AllOwn w (n + 0) (allC l [])) := by
  have H := Lib.hid h
  clear h
  have hz : ¬ (0 : Int) < 0 := by omega
  go_enter Try.func15, Try.ntmps15
  go_wp2_with fail
  go_loopg [5, 6] 0 (fun kx v5 v6 wr => v5 = .slice A n c ∧ v6 = .int .i64 0 ∧ 0 ≤ kx ∧ wr = w)
  case atStart => exact ⟨rfl, rfl, Nat.le_refl _, rfl⟩
  case round =>
    obtain ⟨rfl, rfl, _, rfl⟩ := hrel
    go_wp2_with fail
    go_ret
    exact ⟨A, n, c, rfl, H.out, Nat.le_refl _, Below.refl _ _⟩
theorem batch_l (A : Option Addr) (n c : Nat) (l : List Cg) (w : World) (h : LHC w A n c l) (hb : n * 40 ≤ 140737488355328) : Calls Try.prog 14 #[.slice A n c] w (UndPost w l) := by
  rcases h with h | ⟨rfl, rfl⟩
  · exact batch_any A n c l w h hb
  · exact batch_nil A c w
theorem All_l (A B : Option Addr) (n c m d : Nat) (l b : List Cg) (w : World) (h : w.ownsRow 0 48 3 (.slice A n c) n (chV l)) (h2 : LHC w B m d b) (hs : (n + m + 1) * 40 ≤ 140737488355328) : Calls Try.prog 15 #[.slice A n c, .slice B m d] w (AllOwn w (n + m) (allC l b)) := by
  rcases h2 with h2 | ⟨rfl, rfl⟩
  · exact All_own A B n c m d l b w h h2 hs
  · exact All_nil A B n c d l w h
end Go.Proofs.Ytbfhlleipeipbaa

/- What is proved: how batches and fates that come in read. Conditions: those in each statement. -/
namespace Go.Proofs.Ytbfhlleipeipbaa
open Go.ChangeShapes Go.WideShapes Go.ChangeAt Go.RowKit Go.Lib Go.Sort

/-- batches that come in -/
theorem open_lists {H : Type} {enc : TypeId × Value → H} {W : World} {A : Option Addr} {N C : Nat} {d : DataW H} {p : List MemPlace} (hA : A = none ∨ ∃ b o, A = some ⟨b, o, none⟩) (h : DataW.Trod enc Try.prog W 0 (fun _ => true) true 22 (.slice A N C) d p)
    (hfz : ∀ b off, MemPlace.cell b off ∈ p → W.frozen? ⟨b, off, none⟩ = false) (hbu : Rows.uptoBulk d ≤ 1048576) :
    ∃ ls : List (List Cg), Lists W A N ls ∧ N + 1 ≤ Rows.uptoBulk d := by
  obtain ⟨fuel, hf⟩ := h
  rcases Deep.open_slice Try.underlying22 hf with ⟨hcs, hx⟩ | ⟨x, n', c', m, n, D, Pl, hcs, _, hl, hm, hz, hx, hcell⟩
  · simp [Value.cells] at hcs
    obtain ⟨rfl, rfl, rfl⟩ := hcs
    have hd : d = .nil := by injection hx
    subst hd
    exact ⟨[], ⟨rfl, by simp, fun h => absurd h (by omega)⟩, by simp [Rows.uptoBulk]⟩
  · simp [Value.cells] at hcs
    obtain ⟨rfl, rfl, rfl⟩ := hcs
    simp only [if_true] at hz
    subst hz
    obtain ⟨b, off, rfl⟩ : ∃ b o, x = ⟨b, o, none⟩ := by
      rcases hA with e | ⟨b, o, e⟩
      · cases e
      · exact ⟨b, o, Option.some.inj e⟩
    have hd : d = .slice ((List.range N).map D) ((List.range (m - N)).map fun j => D (N + j)) := by injection hx
    have hp : p = MemPlace.row ⟨b, off, none⟩ (m * Try.prog.cellsOf 31) ++ (List.range m).flatMap Pl := by injection hx
    have hbu' := hbu
    rw [hd] at hbu'
    simp only [Rows.uptoBulk] at hbu'
    have ce : Try.prog.cellsOf 31 = 1 := by kernel_rfl
    have each : ∀ i, i < N → ∃ q : List Cg, (∀ y ∈ q, y.key.size + y.val.size ≤ 1048576) ∧ ∃ B n c, W.cell? ⟨b, off + i, none⟩ = some (.slice B n c) ∧ LHC W B n c q := by
      intro i hi
      obtain ⟨cs', h1, h2⟩ := hcell i (by omega)
      rw [ce] at h1
      obtain ⟨_, hlen, hc1⟩ := World.cells?_some h1
      have hv := hc1 0 (by omega)
      rw [Nat.mul_one, Addr.add_lit] at hv
      obtain ⟨v, rfl⟩ : ∃ v, cs' = [v] := by
        match cs', hlen with
        | [v], _ => exact ⟨v, rfl⟩
      have hv' : W.cell? ⟨b, off + i, none⟩ = some v := by simpa [Addr.add_lit] using hv
      have hform : ∃ B n c, v = .slice B n c := by
        rcases Deep.open_slice Try.underlying31 h2 with ⟨hcs, _⟩ | ⟨y, n', c', _, _, _, _, hcs, _⟩
        · simp at hcs; exact ⟨_, _, _, hcs⟩
        · simp at hcs; exact ⟨_, _, _, hcs⟩
      obtain ⟨B, n2, c2, rfl⟩ := hform
      have hbi := bulk_each D N i hi
      by_cases hn0 : n2 = 0
      · exact ⟨[], by simp, B, n2, c2, hv', .inr ⟨hn0, rfl⟩⟩
      have hsp : B = none ∨ ∃ b o, B = some ⟨b, o, none⟩ := by
        rcases Deep.open_slice Try.underlying31 h2 with ⟨hcs, _⟩ | ⟨y, n', c', m2, _, _, _, hcs, _, hl2, _, hz2, _, hc2⟩
        · simp at hcs; exact .inl hcs.1
        · simp at hcs
          obtain ⟨rfl, rfl, rfl⟩ := hcs
          simp only [if_true] at hz2
          obtain ⟨cs2, q1, _⟩ := hc2 0 (by omega)
          obtain ⟨_, ql, qc⟩ := World.cells?_some q1
          have ce48 : Try.prog.cellsOf 48 = 3 := by kernel_rfl
          have hq := World.cell?_spot ((qc 0 (by rw [ce48]; omega)).trans (List.getElem?_eq_getElem (show 0 < cs2.length by rw [ql, ce48]; omega)))
          obtain ⟨yb, yo, ys⟩ := y
          have : ys = none := by simpa [Addr.add] using hq
          subst this
          exact .inr ⟨yb, yo, rfl⟩
      obtain ⟨l, k1, k2, _⟩ := open_chs hsp ⟨_, h2⟩ (fun b' o' hm' => hfz b' o' (by rw [hp]; exact List.mem_append_right _ (List.mem_flatMap.2 ⟨i, List.mem_range.2 (by omega), hm'⟩))) (by show Rows.uptoBulk (D i) ≤ _; omega)
      exact ⟨l, k2, B, n2, c2, hv', .inl k1⟩
    obtain ⟨q, hq⟩ := Deep.choose_lt each
    have hbl := bulk_list ((List.range N).map D)
    refine ⟨(List.range N).map q, ⟨by simp, ?_, fun hN => ⟨b, off, rfl, fun j hj => ?_⟩⟩, ?_⟩
    · intro l hl2
      obtain ⟨i, hi, rfl⟩ := List.mem_map.1 hl2
      exact (hq i (List.mem_range.1 hi)).1
    · have hj' : j < N := by simpa using hj
      simp only [List.getElem_map, List.getElem_range]
      exact (hq j hj').2
    · rw [hd]
      simp only [Rows.uptoBulk]
      simp at hbl
      omega
/-- fates that come in -/
theorem open_fates {H : Type} {enc : TypeId × Value → H} {W : World} {A : Option Addr} {N C : Nat} {d : DataW H} {p : List MemPlace} (hA : A = none ∨ ∃ b o, A = some ⟨b, o, none⟩) (h : DataW.Trod enc Try.prog W 0 (fun _ => true) true 23 (.slice A N C) d p) :
    Fates W A N ∧ Len d N C := by
  obtain ⟨fuel, hf⟩ := h
  rcases Deep.open_slice Try.underlying23 hf with ⟨hcs, hx⟩ | ⟨x, n', c', m, n, D, Pl, hcs, _, hl, hm, hz, hx, hcell⟩
  · simp [Value.cells] at hcs
    obtain ⟨rfl, rfl, rfl⟩ := hcs
    exact ⟨fun h => absurd h (by omega), .inl ⟨by injection hx, rfl, rfl⟩⟩
  · simp [Value.cells] at hcs
    obtain ⟨rfl, rfl, rfl⟩ := hcs
    simp only [if_true] at hz
    subst hz
    obtain ⟨b, off, rfl⟩ : ∃ b o, x = ⟨b, o, none⟩ := by
      rcases hA with e | ⟨b, o, e⟩
      · cases e
      · exact ⟨b, o, Option.some.inj e⟩
    have hd : d = .slice ((List.range N).map D) ((List.range (m - N)).map fun j => D (N + j)) := by injection hx
    have ce : Try.prog.cellsOf 33 = 3 := by kernel_rfl
    have ce3 : Try.prog.cellsOf 3 = 1 := by kernel_rfl
    refine ⟨fun hN => ⟨b, off, rfl, fun j hj => ?_⟩, .inr ⟨_, _, hd, by simp, by simp; omega⟩⟩
    obtain ⟨cs', h1, h2⟩ := hcell j (by omega)
    rw [ce] at h1
    obtain ⟨_, hlen, hc1⟩ := World.cells?_some h1
    obtain ⟨v0, v1, v2, rfl⟩ := three_of cs' hlen
    have q0 := hc1 0 (by omega)
    have q1 := hc1 1 (by omega)
    have q2 := hc1 2 (by omega)
    simp only [Addr.add_lit] at q0 q1 q2
    obtain ⟨x0, x1, x2, n1, _, g0, g1, g2⟩ := trod_array3 Try.underlying33 ce3 (c0 := v0) (c1 := v1) (c2 := v2) h2
    obtain ⟨f0, e0, _, w0⟩ := DataW.trod_int Try.underlying3 g0
    obtain ⟨f1, e1, _, _⟩ := DataW.trod_int Try.underlying3 g1
    obtain ⟨f2, e2, _, _⟩ := DataW.trod_int Try.underlying3 g2
    simp at e0 e1 e2
    subst e0 e1 e2
    exact ⟨f0, f1, f2, bounds_i64 w0, q0, q1, q2⟩
end Go.Proofs.Ytbfhlleipeipbaa

/- What is proved: the walk of StoreCrash: it answers true, and turns nothing that was there. Conditions: each change's texts have at most 1048576 bytes together. -/
namespace Go.Proofs.Ytbfhlleipeipbaa
open Go.RowKit Go.Lib Go.Sort

set_option maxRecDepth 100000 in
set_option maxHeartbeats 8000000 in
theorem crash_walk (m : Nat) (hm : m < 256) (B : Option Addr) (L C : Nat) (ls : List (List Cg)) (F : Option Addr) (M DF : Nat) (w : World) (hl : Lists w B L ls) (hf : Fates w F M) (hL : L ≤ 140737488355328) : Calls Try.prog 3 #[.int .u8 (m : Int), .slice B L C, .slice F M DF] w fun e w' => e = .returned (.bool true) ∧ Below w.heap.size w w' := by
  obtain ⟨N, hNe⟩ : ∃ N : Nat, N = 4 + m % 60 := ⟨_, rfl⟩
  have hN4 : 4 ≤ N := by omega
  have hN63 : N ≤ 63 := by omega
  have hNz : 4 + (m : Int) % 60 = (N : Int) := by omega
  have hNN : newN (N : Int) = N := by unfold newN; omega
  have hnm := new_mine w w (N : Int) (Below.refl _ _)
  rw [hNN] at hnm
  have HN := Lib.hid hnm
  have HL := Lib.hid hl
  have HF := Lib.hid hf
  clear hl hf hnm hNN hNe
  go_enter Try.func3, Try.ntmps3
  go_wp2_with fail
  refine HN.out.mono ?_
  rintro e1 w1 ⟨g, rfl, hm1, hb1, hg1⟩
  have HO := Lib.hid (open_new hm1 hN4)
  clear hm1 hb1 HN
  go_wp2_with (go_at_call 9; refine HO.out.mono ?_; rintro e2 w2 ⟨sb0, cb0, rfl, hx2, ho2, hsb⟩; have HX2 := Lib.hid hx2; clear hx2 ho2 HO)
  refine (awake_any w2).mono ?_
  rintro e3 w3 ⟨rfl, hb3⟩
  have HX3 := Lib.hid (HX2.out.below hb3)
  clear hb3 HX2 hsb hg1
  have HB0 : Hid (Bt w g N sb0 cb0 (newX N) 0 0 0 0 [] (.slice none 0 0) 0 0 w3) := Lib.hid ⟨HX3.out, Rep.new hN4 (by omega), .inl rfl, fun i hi => by show ((newSt N).told i).take 32 = ((newSt N).told i).drop 32; rw [new_told (by omega)]; rfl, World.ownsRow_nil _ _ _ _, ⟨Nat.le_refl _, fun y hy => by cases hy⟩⟩
  clear HX3
  go_wp2_with fail
  go_loopg [8, 10, 11] L (fun kx v8 v10 v11 wr => ∃ (i sb cb : Nat) (x : SS) (T a en cn : Nat) (bs : List (List Cg)) (A0 : Option Addr) (n0 c0 : Nat), v11 = .int .i64 (i : Int) ∧ v8 = .pointer (some ⟨sb, 0, none⟩) ∧ v10 = .slice A0 n0 c0 ∧ i ≤ L ∧ i ≤ 30 ∧ L - i ≤ kx ∧ T ≤ i ∧ Hid (Bt w g N sb cb x T a en cn bs (.slice A0 n0 c0) n0 (300 * i) wr))
  case atStart => exact ⟨0, sb0, cb0, newX N, 0, 0, 0, 0, [], none, 0, 0, rfl, rfl, rfl, Nat.zero_le _, by omega, by omega, Nat.le_refl _, HB0⟩
  case round =>
    obtain ⟨i, sb, cb, x, T, a, en, cn, bs, A0, n0, c0, rfl, rfl, rfl, hiL, hi30, hkx, hTi, HB⟩ := hrel
    by_cases hi : i < L
    · by_cases hi2 : i < 30
      · have hltz : (i : Int) < (L : Int) := by omega
        have hlt30 : (i : Int) < 30 := by omega
        obtain ⟨bL, oL, A, n, c, hil, rfl, hcL0, hHC⟩ := HL.out.at (Below.refl _ _) hi
        have HG := Lib.hid (fun (W : World) (hb : Below w.heap.size w W) => And.intro (cell_later hb hcL0) (hHC.below hb))
        have hcL := (HG.out wr HB.out.sm.b).1
        clear hcL0
        have HSZ := Lib.hid (HL.out.2.1 _ (List.getElem_mem hil))
        have hln := Lib.hid hHC.len
        clear hHC
        by_cases hfew : n ≤ 300
        rotate_left
        · have hd := decide_eq_false hfew
          go_wp2_with (go_at_call 11; refine (few_any A n c _).mono ?_; rintro e w' ⟨rfl, rfl⟩; rw [hd])
          go_roundg (L - (i + 1))
          case measure => omega
          case rel => exact ⟨i + 1, sb, cb, x, T, a, en, cn, bs, A0, n0, c0, by go_num, rfl, rfl, by omega, by omega, Nat.le_refl _, by omega, Lib.hid ⟨HB.out.sm, HB.out.rep, HB.out.own, HB.out.whole, HB.out.now, HB.out.few.mono (by omega)⟩⟩
        have hd := decide_eq_true hfew
        have HSL : Hid (Small ls[i]) := Lib.hid ⟨by rw [hln.out]; exact hfew, HSZ.out⟩
        generalize ls[i] = l at *
        by_cases hiM : i < M
        · have hMz : (i : Int) < (M : Int) := by omega
          obtain ⟨bF, oF, f0, f1, f2, rfl, hf0, g0, g1, g2⟩ := HF.out.at HB.out.sm.b hiM
          have HRG : ∀ W, Below wr.heap.size wr W → Hid (W.rangeAt bF (oF + i * 3) [.int .i64 f0, .int .i64 f1, .int .i64 f2]) := fun W hW => Lib.hid (by
            intro j v hv
            match j, hv with
            | 0, hv => simp at hv; subst hv; exact cell_later hW g0
            | 1, hv => simp at hv; subst hv; exact cell_later hW g1
            | 2, hv => simp at hv; subst hv; exact cell_later hW g2
            | j + 3, hv => simp at hv)
          have HI33 := Lib.hid (show (Try.prog.info? 33).map (·.size) = some [Value.int .i64 f0, .int .i64 f1, .int .i64 f2].length by kernel_rfl)
          clear g0 g1 g2
          go_wp2_with (first
            | (go_at_call 11; refine (few_any A n c _).mono ?_; rintro e w' ⟨rfl, rfl⟩; rw [hd])
            | ((with_reducible refine wpList_load_mid rfl 33 (.tmp 60) rfl bF (oF + i * 3) rfl [.int .i64 f0, .int .i64 f1, .int .i64 f2] _ (HRG _ ((Below.refl _ _).alloc (Nat.le_refl _) _)).out Try.underlying33 rfl HI33.out ?_)))
          have HXB := Lib.hid (heap_alloc_new wr (.cells #[.int .i64 f0, .int .i64 f1, .int .i64 f2] 33))
          have hal : Below wr.heap.size wr (wr.alloc (.cells #[.int .i64 f0, .int .i64 f1, .int .i64 f2] 33)) := (Below.refl _ _).alloc (Nat.le_refl _) _
          have HS1 := Lib.hid (HB.out.sm.below hal)
          have HW1 := Lib.hid (own_belowG HB.out.now hal)
          have HR := Lib.hid HB.out.rep
          have HFW := Lib.hid HB.out.few
          have HCUT := Lib.hid (HB.out.rep.cut hN4 (by omega) HB.out.own HB.out.whole f0 (by omega) (by omega) l)
          have hasc := Lib.hid HB.out.rep.inv.asc
          have hn0 := (own_hcG HB.out.now).1.1
          have hP9 := HB.out.few.n
          have HSI := Lib.hid (HFW.out.sized (by omega) hasc.out HSL.out)
          have HCK := Lib.hid (HR.out.cmOk hN4 f0 HSI.out)
          have HFA := Lib.hid (HFW.out.all hasc.out HSL.out)
          have hda : x.d.aSt f0 = ⟨x.d.last, x.d.buf, f0⟩ := by unfold D.aSt; rw [if_neg (by have := HR.out.inv.lft; omega)]
          have HWT := Lib.hid (com_wait (x := ⟨x.d.aSt f0, x.h, x.P, x.st⟩) (by show (x.d.aSt f0).buf = []; rw [hda]; exact HR.out.inv.buf) a en cn l)
          have HLN := Lib.hid (show (x.d.aSt f0).last.length = x.d.last.length by rw [hda])
          clear hal hda
          generalize wr.alloc (.cells #[.int .i64 f0, .int .i64 f1, .int .i64 f2] 33) = w4 at *
          generalize wr.heap.size = bx at *
          refine (arm_mine HS1.out.m f0 (by omega) (by omega)).mono ?_
          rintro e5 w5 ⟨rfl, hm5, ho5⟩
          have HS5 := Lib.hid (HS1.out.armed hm5 ho5 HLN.out)
          have HW5 := Lib.hid (told_othersD HW1.out ho5)
          have HX5 : Hid (w5.heap[bx]? = some (.cells #[.int .i64 f0, .int .i64 f1, .int .i64 f2] 33 (0, 0))) := Lib.hid (ho5.2 bx _ 33 (0, 0) HXB.out (by decide) (by decide) (by decide))
          have hst : (⟨x.d.aSt f0, x.h, x.P, x.st⟩ : SS).st = false := HR.out.inv.st
          clear hm5 ho5 HS1 HW1 HXB HLN
          generalize (⟨x.d.aSt f0, x.h, x.P, x.st⟩ : SS) = xa at *
          obtain ⟨hcl5, hhc5⟩ := HG.out w5 HS5.out.b
          have HHC5 := Lib.hid hhc5
          have HST := Lib.hid hst
          clear hhc5 hst
          have h40n : n * 40 ≤ 140737488355328 := by omega
          have HBT := Lib.hid (batch_l A n c l w5 HHC5.out h40n)
          go_wp2_with (go_at_call 14; refine HBT.out.mono ?_; rintro e6 w6 ⟨A6, n6, c6, rfl, ho6, hb6⟩; have HR6 := Lib.hid (own_hc ho6).1; have HS6 := Lib.hid (HS5.out.below hb6); have HW6 := Lib.hid (own_belowG HW5.out hb6); have HX6 : Hid (w6.heap[bx]? = some (.cells #[.int .i64 f0, .int .i64 f1, .int .i64 f2] 33 (0, 0))) := Lib.hid ((hb6.block bx (Array.getElem?_eq_some_iff.1 HX5.out).1).trans HX5.out); clear ho6 hb6 HS5 HW5 HX5 HBT)
          refine (Commit_any w w6 sb cb g xa a en cn l HS6.out HCK.out HST.out A6 n6 c6 HR6.out).mono ?_
          rintro e7 w7 ⟨rfl, hs7, ho7⟩
          have HS7 := Lib.hid hs7
          have HW7 := Lib.hid (told_othersS HW6.out ho7)
          have HX7 : Hid (w7.heap[bx]? = some (.cells #[.int .i64 f0, .int .i64 f1, .int .i64 f2] 33 (0, 0))) := Lib.hid (ho7.2 bx _ 33 (0, 0) HX6.out (by decide) (by decide) (by decide) (by decide) (by decide) (by decide))
          clear hs7 ho7 HS6 HW6 HX6 HR6 HST HCK
          generalize comE xa a en cn l = E at *
          generalize comX xa a en cn l = xc at *
          obtain ⟨xd, xh, xP, xs⟩ := xc
          have HSA := Lib.hid (HCUT.out)
          clear HCUT
          simp only at HSA HWT
          obtain ⟨T', a', en', cn', bs', P', hT', hR', hO', hP', hP0, hP51⟩ := HSA.out.crash f1 f2
          have HOK := Lib.hid (Rep.opened rfl hR')
          have HMD := Lib.hid (hR'.mended hN4 hO')
          have HALL := Lib.hid hR'.all
          have HPA := Lib.hid hR'.inv.asc
          have HUP := Lib.hid (And.intro hR'.inv.lft (And.intro (show 4 ≤ (xd.cSt f1 f2).last.length by have := hR'.inv.len; simp only at this; omega) (show (xd.cSt f1 f2).buf.length ≤ 1099511627776 from Nat.zero_le _)))
          have hFP : Few (300 * i + 300) P' := hP'.elim (fun e => e ▸ HFA.out) (fun e => e ▸ HFW.out.mono (by omega))
          have HFP := Lib.hid hFP
          have hPn := hFP.n
          have hAn := HFA.out.n
          have HPP := Lib.hid (And.intro hP' (And.intro hP0 hP51))
          clear hR' hO' hP' hP0 hP51 hFP
          obtain ⟨hcl7, hhc7⟩ := HG.out w7 HS7.out.b
          have HHC7 := Lib.hid hhc7
          clear hhc7
          have hbnd : (n0 + n + 1) * 40 ≤ 140737488355328 := by omega
          have HAL := Lib.hid (All_l A0 A n0 c0 n c x.P l w7 (own_mono HW7.out (Nat.zero_le _)) HHC7.out hbnd)
          go_wp2_with fail
          refine HAL.out.mono ?_
          rintro e8 w8 ⟨A8, n8, c8, rfl, hh8, _, hb8⟩
          have HN8 := Lib.hid hh8
          have HS8 := Lib.hid (HS7.out.below hb8)
          have HW8 := Lib.hid (own_belowG HW7.out hb8)
          have HX8 : Hid (w8.heap[bx]? = some (.cells #[.int .i64 f0, .int .i64 f1, .int .i64 f2] 33 (0, 0))) := Lib.hid ((hb8.block bx (Array.getElem?_eq_some_iff.1 HX7.out).1).trans HX7.out)
          clear hh8 hb8 HS7 HW7 HX7 HAL HHC7
          rcases HSA.out.er with rfl | rfl | rfl
          · have HQ : Hid (sameL P' (allC x.P l) = true) := Lib.hid (by rw [HPP.out.2.1 rfl]; exact sameL_self _)
            clear HPP
            have HXP := Lib.hid (show xP = allC x.P l from HSA.out.yes rfl)
            have hxa : Asc xP := by rw [HXP.out]; exact allC_asc hasc.out
            have hxl : xP.length * 40 ≤ 140737488355328 := by rw [HXP.out]; have := hAn; omega
            have HPR := Lib.hid (pairs_any w w8 sb cb g ⟨xd, xh, xP, xs⟩ HS8.out hxa hxl)
            have HSM : Hid (sameL xP (allC x.P l) = true) := Lib.hid (by rw [HXP.out]; exact sameL_self _)
            have HCR : ∀ W, Mine w W g xd → Hid (Calls Try.prog 18 #[.pointer (some ⟨g, 0, none⟩), .int .i64 f1, .int .i64 f2] W fun e w' => e = .returned (.tuple #[]) ∧ Mine w w' g (xd.cSt f1 f2) ∧ OthersD W w') := fun W hM => Lib.hid (crash_mine hM f1 f2 (Nat.le_trans HWT.out (by omega)))
            clear hxa
            go_wp2_with (first
              | (go_at_call 17; (with_reducible refine HPR.out.mono ?_); rintro e9 w9 ⟨A9, n9, c9, rfl, ho9, hb9⟩; have HP9 := Lib.hid (own_hcG ho9).1; have HS9 := Lib.hid (HS8.out.below hb9); have HW9 := Lib.hid (own_belowG HW8.out hb9); have HN9 := Lib.hid (own_belowG HN8.out hb9); have HX9 : Hid (w9.heap[bx]? = some (.cells #[.int .i64 f0, .int .i64 f1, .int .i64 f2] 33 (0, 0))) := Lib.hid ((hb9.block bx (Array.getElem?_eq_some_iff.1 HX8.out).1).trans HX8.out); have h940 : n9 * 40 ≤ 140737488355328 := (by have := HP9.out.1; rw [← this]; exact hxl); clear ho9 hb9 HPR)
              | (go_at_call 16; (with_reducible refine (Same_any w9 A9 A8 n9 c9 n8 c8 xP (allC x.P l) HP9.out (own_hcG HN9.out).1 h940).mono ?_); rintro e10 w10 ⟨rfl, hb10⟩; rw [HSM.out]; have HS10 := Lib.hid (HS9.out.below hb10); have HW10 := Lib.hid (own_belowG HW9.out hb10); have HN10 := Lib.hid (own_belowG HN9.out hb10); obtain ⟨xc0, xc1, xc2⟩ := box3 ((hb10.block bx (Array.getElem?_eq_some_iff.1 HX9.out).1).trans HX9.out); clear hb10)
              | (go_at_call 18; refine (HCR _ HS10.out.m).out.mono ?_; rintro e11 w11 ⟨rfl, hm11, ho11⟩; have HM11 := Lib.hid hm11; have HW11 := Lib.hid (told_othersD HW10.out ho11); have HN11 := Lib.hid (told_othersD HN10.out ho11); clear hm11 ho11))
            have HOP := Lib.hid (open_any w w11 g (xd.cSt f1 f2) HM11.out HUP.out.1 HUP.out.2.1 HUP.out.2.2 a' bs' HOK.out)
            refine HOP.out.mono ?_
            rintro e12 w12 ⟨sb2, cb2, rfl, hx12, ho12, _⟩
            rw [HALL.out] at hx12
            have HX12 := Lib.hid hx12
            have HW12 := Lib.hid (told_othersD HW11.out ho12)
            have HN12 := Lib.hid (told_othersD HN11.out ho12)
            clear hx12 ho12 HOP HM11 HW11 HN11 HS8 HW8 HN8 HX8 HS9 HW9 HN9 HX9 HS10 HW10 HN10 HP9 xc0 xc1 xc2
            have hPl : P'.length * 40 ≤ 140737488355328 := by omega
            have HPR2 := Lib.hid (pairs_any w w12 sb2 cb2 g ⟨mend (xd.cSt f1 f2), openH (xd.cSt f1 f2), P', false⟩ HX12.out HPA.out hPl)
            go_wp2_with (go_at_call 17; (with_reducible refine HPR2.out.mono ?_); rintro e13 w13 ⟨A13, n13, c13, rfl, ho13, hb13⟩; have HG13 := Lib.hid (own_mono ho13 (show w.heap.size ≤ w12.heap.size from HX12.out.b.size)); have HX13 := Lib.hid (HX12.out.below hb13); have HW13 := Lib.hid (own_belowG HW12.out hb13); have HN13 := Lib.hid (own_belowG HN12.out hb13); have h1340 : n13 * 40 ≤ 140737488355328 := (by have h13 : P'.length = n13 := (own_hcG HG13.out).1.1; rw [← h13]; exact hPl); clear ho13 hb13 HPR2)
            go_wp2_with (first
              | (go_at_call 16; (with_reducible refine (Same_any w13 A13 A8 n13 c13 n8 c8 P' (allC x.P l) (own_hcG HG13.out).1 (own_hcG HN13.out).1 h1340).mono ?_); rintro e14 w14 ⟨rfl, hb14⟩; rw [HQ.out]; have HG14 := Lib.hid (own_belowG HG13.out hb14); have HX14 := Lib.hid (HX13.out.below hb14); have HW14 := Lib.hid (own_belowG HW13.out hb14); have HN14 := Lib.hid (own_belowG HN13.out hb14); clear hb14)
              | (go_at_call 16; (with_reducible refine (Same_any w14 A13 A8 n13 c13 n8 c8 P' (allC x.P l) (own_hcG HG14.out).1 (own_hcG HN14.out).1 h1340).mono ?_); rintro e15 w15 ⟨rfl, hb15⟩; rw [HQ.out]; have HG15 := Lib.hid (own_belowG HG14.out hb15); have HX15 := Lib.hid (HX14.out.below hb15); have HW15 := Lib.hid (own_belowG HW14.out hb15); have HN15 := Lib.hid (own_belowG HN14.out hb15); clear hb15))
            go_roundg (L - (i + 1))
            case measure => omega
            case rel => exact ⟨i + 1, sb2, cb2, ⟨mend (xd.cSt f1 f2), openH (xd.cSt f1 f2), P', false⟩, T', a', en', cn', bs', A13, n13, c13, by go_num, rfl, rfl, by omega, by omega, Nat.le_refl _, by omega, Lib.hid ⟨HX15.out, HMD.out.1, HMD.out.2.1, HMD.out.2.2, HG15.out, HFP.out.mono (by omega)⟩⟩
          · have HOR := Lib.hid HPP.out.1
            clear HPP
            have HXP := Lib.hid (show xP = x.P from HSA.out.no (by decide))
            have hxa : Asc xP := by rw [HXP.out]; exact hasc.out
            have hxl : xP.length * 40 ≤ 140737488355328 := by rw [HXP.out]; have := hP9; omega
            have HPR := Lib.hid (pairs_any w w8 sb cb g ⟨xd, xh, xP, xs⟩ HS8.out hxa hxl)
            have HSM : Hid (sameL xP (x.P) = true) := Lib.hid (by rw [HXP.out]; exact sameL_self _)
            have HCR : ∀ W, Mine w W g xd → Hid (Calls Try.prog 18 #[.pointer (some ⟨g, 0, none⟩), .int .i64 f1, .int .i64 f2] W fun e w' => e = .returned (.tuple #[]) ∧ Mine w w' g (xd.cSt f1 f2) ∧ OthersD W w') := fun W hM => Lib.hid (crash_mine hM f1 f2 (Nat.le_trans HWT.out (by omega)))
            clear hxa
            go_wp2_with (first
              | (go_at_call 17; (with_reducible refine HPR.out.mono ?_); rintro e9 w9 ⟨A9, n9, c9, rfl, ho9, hb9⟩; have HP9 := Lib.hid (own_hcG ho9).1; have HS9 := Lib.hid (HS8.out.below hb9); have HW9 := Lib.hid (own_belowG HW8.out hb9); have HN9 := Lib.hid (own_belowG HN8.out hb9); have HX9 : Hid (w9.heap[bx]? = some (.cells #[.int .i64 f0, .int .i64 f1, .int .i64 f2] 33 (0, 0))) := Lib.hid ((hb9.block bx (Array.getElem?_eq_some_iff.1 HX8.out).1).trans HX8.out); have h940 : n9 * 40 ≤ 140737488355328 := (by have := HP9.out.1; rw [← this]; exact hxl); clear ho9 hb9 HPR)
              | (go_at_call 16; (with_reducible refine (Same_any w9 A9 A0 n9 c9 n0 c0 xP x.P HP9.out (own_hcG HW9.out).1 h940).mono ?_); rintro e10 w10 ⟨rfl, hb10⟩; rw [HSM.out]; have HS10 := Lib.hid (HS9.out.below hb10); have HW10 := Lib.hid (own_belowG HW9.out hb10); have HN10 := Lib.hid (own_belowG HN9.out hb10); obtain ⟨xc0, xc1, xc2⟩ := box3 ((hb10.block bx (Array.getElem?_eq_some_iff.1 HX9.out).1).trans HX9.out); clear hb10)
              | (go_at_call 18; refine (HCR _ HS10.out.m).out.mono ?_; rintro e11 w11 ⟨rfl, hm11, ho11⟩; have HM11 := Lib.hid hm11; have HW11 := Lib.hid (told_othersD HW10.out ho11); have HN11 := Lib.hid (told_othersD HN10.out ho11); clear hm11 ho11))
            have HOP := Lib.hid (open_any w w11 g (xd.cSt f1 f2) HM11.out HUP.out.1 HUP.out.2.1 HUP.out.2.2 a' bs' HOK.out)
            refine HOP.out.mono ?_
            rintro e12 w12 ⟨sb2, cb2, rfl, hx12, ho12, _⟩
            rw [HALL.out] at hx12
            have HX12 := Lib.hid hx12
            have HW12 := Lib.hid (told_othersD HW11.out ho12)
            have HN12 := Lib.hid (told_othersD HN11.out ho12)
            clear hx12 ho12 HOP HM11 HW11 HN11 HS8 HW8 HN8 HX8 HS9 HW9 HN9 HX9 HS10 HW10 HN10 HP9 xc0 xc1 xc2
            have hPl : P'.length * 40 ≤ 140737488355328 := by omega
            have HPR2 := Lib.hid (pairs_any w w12 sb2 cb2 g ⟨mend (xd.cSt f1 f2), openH (xd.cSt f1 f2), P', false⟩ HX12.out HPA.out hPl)
            go_wp2_with (go_at_call 17; (with_reducible refine HPR2.out.mono ?_); rintro e13 w13 ⟨A13, n13, c13, rfl, ho13, hb13⟩; have HG13 := Lib.hid (own_mono ho13 (show w.heap.size ≤ w12.heap.size from HX12.out.b.size)); have HX13 := Lib.hid (HX12.out.below hb13); have HW13 := Lib.hid (own_belowG HW12.out hb13); have HN13 := Lib.hid (own_belowG HN12.out hb13); have h1340 : n13 * 40 ≤ 140737488355328 := (by have h13 : P'.length = n13 := (own_hcG HG13.out).1.1; rw [← h13]; exact hPl); clear ho13 hb13 HPR2)
            by_cases hq : sameL P' (allC x.P l) = true
            · have HQ := Lib.hid hq
              clear hq
              go_wp2_with (first
                | (go_at_call 16; (with_reducible refine (Same_any w13 A13 A8 n13 c13 n8 c8 P' (allC x.P l) (own_hcG HG13.out).1 (own_hcG HN13.out).1 h1340).mono ?_); rintro e14 w14 ⟨rfl, hb14⟩; rw [HQ.out]; have HG14 := Lib.hid (own_belowG HG13.out hb14); have HX14 := Lib.hid (HX13.out.below hb14); have HW14 := Lib.hid (own_belowG HW13.out hb14); have HN14 := Lib.hid (own_belowG HN13.out hb14); clear hb14))
              go_roundg (L - (i + 1))
              case measure => omega
              case rel => exact ⟨i + 1, sb2, cb2, ⟨mend (xd.cSt f1 f2), openH (xd.cSt f1 f2), P', false⟩, T', a', en', cn', bs', A13, n13, c13, by go_num, rfl, rfl, by omega, by omega, Nat.le_refl _, by omega, Lib.hid ⟨HX14.out, HMD.out.1, HMD.out.2.1, HMD.out.2.2, HG14.out, HFP.out.mono (by omega)⟩⟩
            · have HQ : Hid (sameL P' (allC x.P l) = false) := Lib.hid (by simpa using hq)
              have HQ2 : Hid (sameL P' x.P = true) := Lib.hid (HOR.out.elim (fun e => absurd (by rw [e]; exact sameL_self _) hq) (fun e => by rw [e]; exact sameL_self _))
              clear hq
              go_wp2_with (first
                | (go_at_call 16; (with_reducible refine (Same_any w13 A13 A8 n13 c13 n8 c8 P' (allC x.P l) (own_hcG HG13.out).1 (own_hcG HN13.out).1 h1340).mono ?_); rintro e14 w14 ⟨rfl, hb14⟩; rw [HQ.out]; have HG14 := Lib.hid (own_belowG HG13.out hb14); have HX14 := Lib.hid (HX13.out.below hb14); have HW14 := Lib.hid (own_belowG HW13.out hb14); have HN14 := Lib.hid (own_belowG HN13.out hb14); clear hb14)
                | (go_at_call 16; (with_reducible refine (Same_any w14 A13 A0 n13 c13 n0 c0 P' x.P (own_hcG HG14.out).1 (own_hcG HW14.out).1 h1340).mono ?_); rintro e15 w15 ⟨rfl, hb15⟩; rw [HQ2.out]; have HG15 := Lib.hid (own_belowG HG14.out hb15); have HX15 := Lib.hid (HX14.out.below hb15); have HW15 := Lib.hid (own_belowG HW14.out hb15); have HN15 := Lib.hid (own_belowG HN14.out hb15); clear hb15))
              go_roundg (L - (i + 1))
              case measure => omega
              case rel => exact ⟨i + 1, sb2, cb2, ⟨mend (xd.cSt f1 f2), openH (xd.cSt f1 f2), P', false⟩, T', a', en', cn', bs', A13, n13, c13, by go_num, rfl, rfl, by omega, by omega, Nat.le_refl _, by omega, Lib.hid ⟨HX15.out, HMD.out.1, HMD.out.2.1, HMD.out.2.2, HG15.out, HFP.out.mono (by omega)⟩⟩
          · have HQ2 : Hid (sameL P' x.P = true) := Lib.hid (by rw [HPP.out.2.2 rfl]; exact sameL_self _)
            clear HPP
            have HXP := Lib.hid (show xP = x.P from HSA.out.no (by decide))
            have hxa : Asc xP := by rw [HXP.out]; exact hasc.out
            have hxl : xP.length * 40 ≤ 140737488355328 := by rw [HXP.out]; have := hP9; omega
            have HPR := Lib.hid (pairs_any w w8 sb cb g ⟨xd, xh, xP, xs⟩ HS8.out hxa hxl)
            have HSM : Hid (sameL xP (x.P) = true) := Lib.hid (by rw [HXP.out]; exact sameL_self _)
            have HCR : ∀ W, Mine w W g xd → Hid (Calls Try.prog 18 #[.pointer (some ⟨g, 0, none⟩), .int .i64 f1, .int .i64 f2] W fun e w' => e = .returned (.tuple #[]) ∧ Mine w w' g (xd.cSt f1 f2) ∧ OthersD W w') := fun W hM => Lib.hid (crash_mine hM f1 f2 (Nat.le_trans HWT.out (by omega)))
            clear hxa
            go_wp2_with (first
              | (go_at_call 17; (with_reducible refine HPR.out.mono ?_); rintro e9 w9 ⟨A9, n9, c9, rfl, ho9, hb9⟩; have HP9 := Lib.hid (own_hcG ho9).1; have HS9 := Lib.hid (HS8.out.below hb9); have HW9 := Lib.hid (own_belowG HW8.out hb9); have HN9 := Lib.hid (own_belowG HN8.out hb9); have HX9 : Hid (w9.heap[bx]? = some (.cells #[.int .i64 f0, .int .i64 f1, .int .i64 f2] 33 (0, 0))) := Lib.hid ((hb9.block bx (Array.getElem?_eq_some_iff.1 HX8.out).1).trans HX8.out); have h940 : n9 * 40 ≤ 140737488355328 := (by have := HP9.out.1; rw [← this]; exact hxl); clear ho9 hb9 HPR)
              | (go_at_call 16; (with_reducible refine (Same_any w9 A9 A0 n9 c9 n0 c0 xP x.P HP9.out (own_hcG HW9.out).1 h940).mono ?_); rintro e10 w10 ⟨rfl, hb10⟩; rw [HSM.out]; have HS10 := Lib.hid (HS9.out.below hb10); have HW10 := Lib.hid (own_belowG HW9.out hb10); have HN10 := Lib.hid (own_belowG HN9.out hb10); obtain ⟨xc0, xc1, xc2⟩ := box3 ((hb10.block bx (Array.getElem?_eq_some_iff.1 HX9.out).1).trans HX9.out); clear hb10)
              | (go_at_call 18; refine (HCR _ HS10.out.m).out.mono ?_; rintro e11 w11 ⟨rfl, hm11, ho11⟩; have HM11 := Lib.hid hm11; have HW11 := Lib.hid (told_othersD HW10.out ho11); have HN11 := Lib.hid (told_othersD HN10.out ho11); clear hm11 ho11))
            have HOP := Lib.hid (open_any w w11 g (xd.cSt f1 f2) HM11.out HUP.out.1 HUP.out.2.1 HUP.out.2.2 a' bs' HOK.out)
            refine HOP.out.mono ?_
            rintro e12 w12 ⟨sb2, cb2, rfl, hx12, ho12, _⟩
            rw [HALL.out] at hx12
            have HX12 := Lib.hid hx12
            have HW12 := Lib.hid (told_othersD HW11.out ho12)
            have HN12 := Lib.hid (told_othersD HN11.out ho12)
            clear hx12 ho12 HOP HM11 HW11 HN11 HS8 HW8 HN8 HX8 HS9 HW9 HN9 HX9 HS10 HW10 HN10 HP9 xc0 xc1 xc2
            have hPl : P'.length * 40 ≤ 140737488355328 := by omega
            have HPR2 := Lib.hid (pairs_any w w12 sb2 cb2 g ⟨mend (xd.cSt f1 f2), openH (xd.cSt f1 f2), P', false⟩ HX12.out HPA.out hPl)
            go_wp2_with (go_at_call 17; (with_reducible refine HPR2.out.mono ?_); rintro e13 w13 ⟨A13, n13, c13, rfl, ho13, hb13⟩; have HG13 := Lib.hid (own_mono ho13 (show w.heap.size ≤ w12.heap.size from HX12.out.b.size)); have HX13 := Lib.hid (HX12.out.below hb13); have HW13 := Lib.hid (own_belowG HW12.out hb13); have HN13 := Lib.hid (own_belowG HN12.out hb13); have h1340 : n13 * 40 ≤ 140737488355328 := (by have h13 : P'.length = n13 := (own_hcG HG13.out).1.1; rw [← h13]; exact hPl); clear ho13 hb13 HPR2)
            by_cases hq : sameL P' (allC x.P l) = true
            · have HQ := Lib.hid hq
              clear hq
              go_wp2_with (first
                | (go_at_call 16; (with_reducible refine (Same_any w13 A13 A8 n13 c13 n8 c8 P' (allC x.P l) (own_hcG HG13.out).1 (own_hcG HN13.out).1 h1340).mono ?_); rintro e14 w14 ⟨rfl, hb14⟩; rw [HQ.out]; have HG14 := Lib.hid (own_belowG HG13.out hb14); have HX14 := Lib.hid (HX13.out.below hb14); have HW14 := Lib.hid (own_belowG HW13.out hb14); have HN14 := Lib.hid (own_belowG HN13.out hb14); clear hb14)
                | (go_at_call 16; (with_reducible refine (Same_any w14 A13 A0 n13 c13 n0 c0 P' x.P (own_hcG HG14.out).1 (own_hcG HW14.out).1 h1340).mono ?_); rintro e15 w15 ⟨rfl, hb15⟩; rw [HQ2.out]; have HG15 := Lib.hid (own_belowG HG14.out hb15); have HX15 := Lib.hid (HX14.out.below hb15); have HW15 := Lib.hid (own_belowG HW14.out hb15); have HN15 := Lib.hid (own_belowG HN14.out hb15); clear hb15))
              go_roundg (L - (i + 1))
              case measure => omega
              case rel => exact ⟨i + 1, sb2, cb2, ⟨mend (xd.cSt f1 f2), openH (xd.cSt f1 f2), P', false⟩, T', a', en', cn', bs', A13, n13, c13, by go_num, rfl, rfl, by omega, by omega, Nat.le_refl _, by omega, Lib.hid ⟨HX15.out, HMD.out.1, HMD.out.2.1, HMD.out.2.2, HG15.out, HFP.out.mono (by omega)⟩⟩
            · have HQ : Hid (sameL P' (allC x.P l) = false) := Lib.hid (by simpa using hq)
              clear hq
              go_wp2_with (first
                | (go_at_call 16; (with_reducible refine (Same_any w13 A13 A8 n13 c13 n8 c8 P' (allC x.P l) (own_hcG HG13.out).1 (own_hcG HN13.out).1 h1340).mono ?_); rintro e14 w14 ⟨rfl, hb14⟩; rw [HQ.out]; have HG14 := Lib.hid (own_belowG HG13.out hb14); have HX14 := Lib.hid (HX13.out.below hb14); have HW14 := Lib.hid (own_belowG HW13.out hb14); have HN14 := Lib.hid (own_belowG HN13.out hb14); clear hb14)
                | (go_at_call 16; (with_reducible refine (Same_any w14 A13 A0 n13 c13 n0 c0 P' x.P (own_hcG HG14.out).1 (own_hcG HW14.out).1 h1340).mono ?_); rintro e15 w15 ⟨rfl, hb15⟩; rw [HQ2.out]; have HG15 := Lib.hid (own_belowG HG14.out hb15); have HX15 := Lib.hid (HX14.out.below hb15); have HW15 := Lib.hid (own_belowG HW14.out hb15); have HN15 := Lib.hid (own_belowG HN14.out hb15); clear hb15)
                | (go_at_call 16; (with_reducible refine (Same_any w15 A13 A0 n13 c13 n0 c0 P' x.P (own_hcG HG15.out).1 (own_hcG HW15.out).1 h1340).mono ?_); rintro e16 w16 ⟨rfl, hb16⟩; rw [HQ2.out]; have HG16 := Lib.hid (own_belowG HG15.out hb16); have HX16 := Lib.hid (HX15.out.below hb16); have HW16 := Lib.hid (own_belowG HW15.out hb16); have HN16 := Lib.hid (own_belowG HN15.out hb16); clear hb16))
              go_roundg (L - (i + 1))
              case measure => omega
              case rel => exact ⟨i + 1, sb2, cb2, ⟨mend (xd.cSt f1 f2), openH (xd.cSt f1 f2), P', false⟩, T', a', en', cn', bs', A13, n13, c13, by go_num, rfl, rfl, by omega, by omega, Nat.le_refl _, by omega, Lib.hid ⟨HX16.out, HMD.out.1, HMD.out.2.1, HMD.out.2.2, HG16.out, HFP.out.mono (by omega)⟩⟩
        · have hMz : ¬ (i : Int) < (M : Int) := by omega
          go_wp2_with (go_at_call 11; refine (few_any A n c _).mono ?_; rintro e w' ⟨rfl, rfl⟩; rw [hd])
          have HXB := Lib.hid (heap_alloc_new wr (.cells #[.int .i64 (-1), .int .i64 0, .int .i64 0] 33))
          have hal : Below wr.heap.size wr (wr.alloc (.cells #[.int .i64 (-1), .int .i64 0, .int .i64 0] 33)) := (Below.refl _ _).alloc (Nat.le_refl _) _
          have HS1 := Lib.hid (HB.out.sm.below hal)
          have HW1 := Lib.hid (own_belowG HB.out.now hal)
          have HR := Lib.hid HB.out.rep
          have HFW := Lib.hid HB.out.few
          have HCUT := Lib.hid (HB.out.rep.cut hN4 (by omega) HB.out.own HB.out.whole (-1) (by omega) (by omega) l)
          have hasc := Lib.hid HB.out.rep.inv.asc
          have hn0 := (own_hcG HB.out.now).1.1
          have hP9 := HB.out.few.n
          have HSI := Lib.hid (HFW.out.sized (by omega) hasc.out HSL.out)
          have HCK := Lib.hid (HR.out.cmOk hN4 (-1) HSI.out)
          have HFA := Lib.hid (HFW.out.all hasc.out HSL.out)
          have hda : x.d.aSt (-1) = ⟨x.d.last, x.d.buf, (-1)⟩ := by unfold D.aSt; rw [if_neg (by have := HR.out.inv.lft; omega)]
          have HWT := Lib.hid (com_wait (x := ⟨x.d.aSt (-1), x.h, x.P, x.st⟩) (by show (x.d.aSt (-1)).buf = []; rw [hda]; exact HR.out.inv.buf) a en cn l)
          have HLN := Lib.hid (show (x.d.aSt (-1)).last.length = x.d.last.length by rw [hda])
          clear hal hda
          generalize wr.alloc (.cells #[.int .i64 (-1), .int .i64 0, .int .i64 0] 33) = w4 at *
          generalize wr.heap.size = bx at *
          refine (arm_mine HS1.out.m (-1) (by omega) (by omega)).mono ?_
          rintro e5 w5 ⟨rfl, hm5, ho5⟩
          have HS5 := Lib.hid (HS1.out.armed hm5 ho5 HLN.out)
          have HW5 := Lib.hid (told_othersD HW1.out ho5)
          have HX5 : Hid (w5.heap[bx]? = some (.cells #[.int .i64 (-1), .int .i64 0, .int .i64 0] 33 (0, 0))) := Lib.hid (ho5.2 bx _ 33 (0, 0) HXB.out (by decide) (by decide) (by decide))
          have hst : (⟨x.d.aSt (-1), x.h, x.P, x.st⟩ : SS).st = false := HR.out.inv.st
          clear hm5 ho5 HS1 HW1 HXB HLN
          generalize (⟨x.d.aSt (-1), x.h, x.P, x.st⟩ : SS) = xa at *
          obtain ⟨hcl5, hhc5⟩ := HG.out w5 HS5.out.b
          have HHC5 := Lib.hid hhc5
          have HST := Lib.hid hst
          clear hhc5 hst
          have h40n : n * 40 ≤ 140737488355328 := by omega
          have HBT := Lib.hid (batch_l A n c l w5 HHC5.out h40n)
          go_wp2_with (go_at_call 14; refine HBT.out.mono ?_; rintro e6 w6 ⟨A6, n6, c6, rfl, ho6, hb6⟩; have HR6 := Lib.hid (own_hc ho6).1; have HS6 := Lib.hid (HS5.out.below hb6); have HW6 := Lib.hid (own_belowG HW5.out hb6); have HX6 : Hid (w6.heap[bx]? = some (.cells #[.int .i64 (-1), .int .i64 0, .int .i64 0] 33 (0, 0))) := Lib.hid ((hb6.block bx (Array.getElem?_eq_some_iff.1 HX5.out).1).trans HX5.out); clear ho6 hb6 HS5 HW5 HX5 HBT)
          refine (Commit_any w w6 sb cb g xa a en cn l HS6.out HCK.out HST.out A6 n6 c6 HR6.out).mono ?_
          rintro e7 w7 ⟨rfl, hs7, ho7⟩
          have HS7 := Lib.hid hs7
          have HW7 := Lib.hid (told_othersS HW6.out ho7)
          have HX7 : Hid (w7.heap[bx]? = some (.cells #[.int .i64 (-1), .int .i64 0, .int .i64 0] 33 (0, 0))) := Lib.hid (ho7.2 bx _ 33 (0, 0) HX6.out (by decide) (by decide) (by decide) (by decide) (by decide) (by decide))
          clear hs7 ho7 HS6 HW6 HX6 HR6 HST HCK
          generalize comE xa a en cn l = E at *
          generalize comX xa a en cn l = xc at *
          obtain ⟨xd, xh, xP, xs⟩ := xc
          have HSA := Lib.hid (HCUT.out)
          clear HCUT
          simp only at HSA HWT
          obtain ⟨T', a', en', cn', bs', P', hT', hR', hO', hP', hP0, hP51⟩ := HSA.out.crash 0 0
          have HOK := Lib.hid (Rep.opened rfl hR')
          have HMD := Lib.hid (hR'.mended hN4 hO')
          have HALL := Lib.hid hR'.all
          have HPA := Lib.hid hR'.inv.asc
          have HUP := Lib.hid (And.intro hR'.inv.lft (And.intro (show 4 ≤ (xd.cSt 0 0).last.length by have := hR'.inv.len; simp only at this; omega) (show (xd.cSt 0 0).buf.length ≤ 1099511627776 from Nat.zero_le _)))
          have hFP : Few (300 * i + 300) P' := hP'.elim (fun e => e ▸ HFA.out) (fun e => e ▸ HFW.out.mono (by omega))
          have HFP := Lib.hid hFP
          have hPn := hFP.n
          have hAn := HFA.out.n
          have HPP := Lib.hid (And.intro hP' (And.intro hP0 hP51))
          clear hR' hO' hP' hP0 hP51 hFP
          obtain ⟨hcl7, hhc7⟩ := HG.out w7 HS7.out.b
          have HHC7 := Lib.hid hhc7
          clear hhc7
          have hbnd : (n0 + n + 1) * 40 ≤ 140737488355328 := by omega
          have HAL := Lib.hid (All_l A0 A n0 c0 n c x.P l w7 (own_mono HW7.out (Nat.zero_le _)) HHC7.out hbnd)
          go_wp2_with fail
          refine HAL.out.mono ?_
          rintro e8 w8 ⟨A8, n8, c8, rfl, hh8, _, hb8⟩
          have HN8 := Lib.hid hh8
          have HS8 := Lib.hid (HS7.out.below hb8)
          have HW8 := Lib.hid (own_belowG HW7.out hb8)
          have HX8 : Hid (w8.heap[bx]? = some (.cells #[.int .i64 (-1), .int .i64 0, .int .i64 0] 33 (0, 0))) := Lib.hid ((hb8.block bx (Array.getElem?_eq_some_iff.1 HX7.out).1).trans HX7.out)
          clear hh8 hb8 HS7 HW7 HX7 HAL HHC7
          rcases HSA.out.er with rfl | rfl | rfl
          · have HQ : Hid (sameL P' (allC x.P l) = true) := Lib.hid (by rw [HPP.out.2.1 rfl]; exact sameL_self _)
            clear HPP
            have HXP := Lib.hid (show xP = allC x.P l from HSA.out.yes rfl)
            have hxa : Asc xP := by rw [HXP.out]; exact allC_asc hasc.out
            have hxl : xP.length * 40 ≤ 140737488355328 := by rw [HXP.out]; have := hAn; omega
            have HPR := Lib.hid (pairs_any w w8 sb cb g ⟨xd, xh, xP, xs⟩ HS8.out hxa hxl)
            have HSM : Hid (sameL xP (allC x.P l) = true) := Lib.hid (by rw [HXP.out]; exact sameL_self _)
            have HCR : ∀ W, Mine w W g xd → Hid (Calls Try.prog 18 #[.pointer (some ⟨g, 0, none⟩), .int .i64 0, .int .i64 0] W fun e w' => e = .returned (.tuple #[]) ∧ Mine w w' g (xd.cSt 0 0) ∧ OthersD W w') := fun W hM => Lib.hid (crash_mine hM 0 0 (Nat.le_trans HWT.out (by omega)))
            clear hxa
            go_wp2_with (first
              | (go_at_call 17; (with_reducible refine HPR.out.mono ?_); rintro e9 w9 ⟨A9, n9, c9, rfl, ho9, hb9⟩; have HP9 := Lib.hid (own_hcG ho9).1; have HS9 := Lib.hid (HS8.out.below hb9); have HW9 := Lib.hid (own_belowG HW8.out hb9); have HN9 := Lib.hid (own_belowG HN8.out hb9); have HX9 : Hid (w9.heap[bx]? = some (.cells #[.int .i64 (-1), .int .i64 0, .int .i64 0] 33 (0, 0))) := Lib.hid ((hb9.block bx (Array.getElem?_eq_some_iff.1 HX8.out).1).trans HX8.out); have h940 : n9 * 40 ≤ 140737488355328 := (by have := HP9.out.1; rw [← this]; exact hxl); clear ho9 hb9 HPR)
              | (go_at_call 16; (with_reducible refine (Same_any w9 A9 A8 n9 c9 n8 c8 xP (allC x.P l) HP9.out (own_hcG HN9.out).1 h940).mono ?_); rintro e10 w10 ⟨rfl, hb10⟩; rw [HSM.out]; have HS10 := Lib.hid (HS9.out.below hb10); have HW10 := Lib.hid (own_belowG HW9.out hb10); have HN10 := Lib.hid (own_belowG HN9.out hb10); obtain ⟨xc0, xc1, xc2⟩ := box3 ((hb10.block bx (Array.getElem?_eq_some_iff.1 HX9.out).1).trans HX9.out); clear hb10)
              | (go_at_call 18; refine (HCR _ HS10.out.m).out.mono ?_; rintro e11 w11 ⟨rfl, hm11, ho11⟩; have HM11 := Lib.hid hm11; have HW11 := Lib.hid (told_othersD HW10.out ho11); have HN11 := Lib.hid (told_othersD HN10.out ho11); clear hm11 ho11))
            have HOP := Lib.hid (open_any w w11 g (xd.cSt 0 0) HM11.out HUP.out.1 HUP.out.2.1 HUP.out.2.2 a' bs' HOK.out)
            refine HOP.out.mono ?_
            rintro e12 w12 ⟨sb2, cb2, rfl, hx12, ho12, _⟩
            rw [HALL.out] at hx12
            have HX12 := Lib.hid hx12
            have HW12 := Lib.hid (told_othersD HW11.out ho12)
            have HN12 := Lib.hid (told_othersD HN11.out ho12)
            clear hx12 ho12 HOP HM11 HW11 HN11 HS8 HW8 HN8 HX8 HS9 HW9 HN9 HX9 HS10 HW10 HN10 HP9 xc0 xc1 xc2
            have hPl : P'.length * 40 ≤ 140737488355328 := by omega
            have HPR2 := Lib.hid (pairs_any w w12 sb2 cb2 g ⟨mend (xd.cSt 0 0), openH (xd.cSt 0 0), P', false⟩ HX12.out HPA.out hPl)
            go_wp2_with (go_at_call 17; (with_reducible refine HPR2.out.mono ?_); rintro e13 w13 ⟨A13, n13, c13, rfl, ho13, hb13⟩; have HG13 := Lib.hid (own_mono ho13 (show w.heap.size ≤ w12.heap.size from HX12.out.b.size)); have HX13 := Lib.hid (HX12.out.below hb13); have HW13 := Lib.hid (own_belowG HW12.out hb13); have HN13 := Lib.hid (own_belowG HN12.out hb13); have h1340 : n13 * 40 ≤ 140737488355328 := (by have h13 : P'.length = n13 := (own_hcG HG13.out).1.1; rw [← h13]; exact hPl); clear ho13 hb13 HPR2)
            go_wp2_with (first
              | (go_at_call 16; (with_reducible refine (Same_any w13 A13 A8 n13 c13 n8 c8 P' (allC x.P l) (own_hcG HG13.out).1 (own_hcG HN13.out).1 h1340).mono ?_); rintro e14 w14 ⟨rfl, hb14⟩; rw [HQ.out]; have HG14 := Lib.hid (own_belowG HG13.out hb14); have HX14 := Lib.hid (HX13.out.below hb14); have HW14 := Lib.hid (own_belowG HW13.out hb14); have HN14 := Lib.hid (own_belowG HN13.out hb14); clear hb14)
              | (go_at_call 16; (with_reducible refine (Same_any w14 A13 A8 n13 c13 n8 c8 P' (allC x.P l) (own_hcG HG14.out).1 (own_hcG HN14.out).1 h1340).mono ?_); rintro e15 w15 ⟨rfl, hb15⟩; rw [HQ.out]; have HG15 := Lib.hid (own_belowG HG14.out hb15); have HX15 := Lib.hid (HX14.out.below hb15); have HW15 := Lib.hid (own_belowG HW14.out hb15); have HN15 := Lib.hid (own_belowG HN14.out hb15); clear hb15))
            go_roundg (L - (i + 1))
            case measure => omega
            case rel => exact ⟨i + 1, sb2, cb2, ⟨mend (xd.cSt 0 0), openH (xd.cSt 0 0), P', false⟩, T', a', en', cn', bs', A13, n13, c13, by go_num, rfl, rfl, by omega, by omega, Nat.le_refl _, by omega, Lib.hid ⟨HX15.out, HMD.out.1, HMD.out.2.1, HMD.out.2.2, HG15.out, HFP.out.mono (by omega)⟩⟩
          · have HOR := Lib.hid HPP.out.1
            clear HPP
            have HXP := Lib.hid (show xP = x.P from HSA.out.no (by decide))
            have hxa : Asc xP := by rw [HXP.out]; exact hasc.out
            have hxl : xP.length * 40 ≤ 140737488355328 := by rw [HXP.out]; have := hP9; omega
            have HPR := Lib.hid (pairs_any w w8 sb cb g ⟨xd, xh, xP, xs⟩ HS8.out hxa hxl)
            have HSM : Hid (sameL xP (x.P) = true) := Lib.hid (by rw [HXP.out]; exact sameL_self _)
            have HCR : ∀ W, Mine w W g xd → Hid (Calls Try.prog 18 #[.pointer (some ⟨g, 0, none⟩), .int .i64 0, .int .i64 0] W fun e w' => e = .returned (.tuple #[]) ∧ Mine w w' g (xd.cSt 0 0) ∧ OthersD W w') := fun W hM => Lib.hid (crash_mine hM 0 0 (Nat.le_trans HWT.out (by omega)))
            clear hxa
            go_wp2_with (first
              | (go_at_call 17; (with_reducible refine HPR.out.mono ?_); rintro e9 w9 ⟨A9, n9, c9, rfl, ho9, hb9⟩; have HP9 := Lib.hid (own_hcG ho9).1; have HS9 := Lib.hid (HS8.out.below hb9); have HW9 := Lib.hid (own_belowG HW8.out hb9); have HN9 := Lib.hid (own_belowG HN8.out hb9); have HX9 : Hid (w9.heap[bx]? = some (.cells #[.int .i64 (-1), .int .i64 0, .int .i64 0] 33 (0, 0))) := Lib.hid ((hb9.block bx (Array.getElem?_eq_some_iff.1 HX8.out).1).trans HX8.out); have h940 : n9 * 40 ≤ 140737488355328 := (by have := HP9.out.1; rw [← this]; exact hxl); clear ho9 hb9 HPR)
              | (go_at_call 16; (with_reducible refine (Same_any w9 A9 A0 n9 c9 n0 c0 xP x.P HP9.out (own_hcG HW9.out).1 h940).mono ?_); rintro e10 w10 ⟨rfl, hb10⟩; rw [HSM.out]; have HS10 := Lib.hid (HS9.out.below hb10); have HW10 := Lib.hid (own_belowG HW9.out hb10); have HN10 := Lib.hid (own_belowG HN9.out hb10); obtain ⟨xc0, xc1, xc2⟩ := box3 ((hb10.block bx (Array.getElem?_eq_some_iff.1 HX9.out).1).trans HX9.out); clear hb10)
              | (go_at_call 18; refine (HCR _ HS10.out.m).out.mono ?_; rintro e11 w11 ⟨rfl, hm11, ho11⟩; have HM11 := Lib.hid hm11; have HW11 := Lib.hid (told_othersD HW10.out ho11); have HN11 := Lib.hid (told_othersD HN10.out ho11); clear hm11 ho11))
            have HOP := Lib.hid (open_any w w11 g (xd.cSt 0 0) HM11.out HUP.out.1 HUP.out.2.1 HUP.out.2.2 a' bs' HOK.out)
            refine HOP.out.mono ?_
            rintro e12 w12 ⟨sb2, cb2, rfl, hx12, ho12, _⟩
            rw [HALL.out] at hx12
            have HX12 := Lib.hid hx12
            have HW12 := Lib.hid (told_othersD HW11.out ho12)
            have HN12 := Lib.hid (told_othersD HN11.out ho12)
            clear hx12 ho12 HOP HM11 HW11 HN11 HS8 HW8 HN8 HX8 HS9 HW9 HN9 HX9 HS10 HW10 HN10 HP9 xc0 xc1 xc2
            have hPl : P'.length * 40 ≤ 140737488355328 := by omega
            have HPR2 := Lib.hid (pairs_any w w12 sb2 cb2 g ⟨mend (xd.cSt 0 0), openH (xd.cSt 0 0), P', false⟩ HX12.out HPA.out hPl)
            go_wp2_with (go_at_call 17; (with_reducible refine HPR2.out.mono ?_); rintro e13 w13 ⟨A13, n13, c13, rfl, ho13, hb13⟩; have HG13 := Lib.hid (own_mono ho13 (show w.heap.size ≤ w12.heap.size from HX12.out.b.size)); have HX13 := Lib.hid (HX12.out.below hb13); have HW13 := Lib.hid (own_belowG HW12.out hb13); have HN13 := Lib.hid (own_belowG HN12.out hb13); have h1340 : n13 * 40 ≤ 140737488355328 := (by have h13 : P'.length = n13 := (own_hcG HG13.out).1.1; rw [← h13]; exact hPl); clear ho13 hb13 HPR2)
            by_cases hq : sameL P' (allC x.P l) = true
            · have HQ := Lib.hid hq
              clear hq
              go_wp2_with (first
                | (go_at_call 16; (with_reducible refine (Same_any w13 A13 A8 n13 c13 n8 c8 P' (allC x.P l) (own_hcG HG13.out).1 (own_hcG HN13.out).1 h1340).mono ?_); rintro e14 w14 ⟨rfl, hb14⟩; rw [HQ.out]; have HG14 := Lib.hid (own_belowG HG13.out hb14); have HX14 := Lib.hid (HX13.out.below hb14); have HW14 := Lib.hid (own_belowG HW13.out hb14); have HN14 := Lib.hid (own_belowG HN13.out hb14); clear hb14))
              go_roundg (L - (i + 1))
              case measure => omega
              case rel => exact ⟨i + 1, sb2, cb2, ⟨mend (xd.cSt 0 0), openH (xd.cSt 0 0), P', false⟩, T', a', en', cn', bs', A13, n13, c13, by go_num, rfl, rfl, by omega, by omega, Nat.le_refl _, by omega, Lib.hid ⟨HX14.out, HMD.out.1, HMD.out.2.1, HMD.out.2.2, HG14.out, HFP.out.mono (by omega)⟩⟩
            · have HQ : Hid (sameL P' (allC x.P l) = false) := Lib.hid (by simpa using hq)
              have HQ2 : Hid (sameL P' x.P = true) := Lib.hid (HOR.out.elim (fun e => absurd (by rw [e]; exact sameL_self _) hq) (fun e => by rw [e]; exact sameL_self _))
              clear hq
              go_wp2_with (first
                | (go_at_call 16; (with_reducible refine (Same_any w13 A13 A8 n13 c13 n8 c8 P' (allC x.P l) (own_hcG HG13.out).1 (own_hcG HN13.out).1 h1340).mono ?_); rintro e14 w14 ⟨rfl, hb14⟩; rw [HQ.out]; have HG14 := Lib.hid (own_belowG HG13.out hb14); have HX14 := Lib.hid (HX13.out.below hb14); have HW14 := Lib.hid (own_belowG HW13.out hb14); have HN14 := Lib.hid (own_belowG HN13.out hb14); clear hb14)
                | (go_at_call 16; (with_reducible refine (Same_any w14 A13 A0 n13 c13 n0 c0 P' x.P (own_hcG HG14.out).1 (own_hcG HW14.out).1 h1340).mono ?_); rintro e15 w15 ⟨rfl, hb15⟩; rw [HQ2.out]; have HG15 := Lib.hid (own_belowG HG14.out hb15); have HX15 := Lib.hid (HX14.out.below hb15); have HW15 := Lib.hid (own_belowG HW14.out hb15); have HN15 := Lib.hid (own_belowG HN14.out hb15); clear hb15))
              go_roundg (L - (i + 1))
              case measure => omega
              case rel => exact ⟨i + 1, sb2, cb2, ⟨mend (xd.cSt 0 0), openH (xd.cSt 0 0), P', false⟩, T', a', en', cn', bs', A13, n13, c13, by go_num, rfl, rfl, by omega, by omega, Nat.le_refl _, by omega, Lib.hid ⟨HX15.out, HMD.out.1, HMD.out.2.1, HMD.out.2.2, HG15.out, HFP.out.mono (by omega)⟩⟩
          · have HQ2 : Hid (sameL P' x.P = true) := Lib.hid (by rw [HPP.out.2.2 rfl]; exact sameL_self _)
            clear HPP
            have HXP := Lib.hid (show xP = x.P from HSA.out.no (by decide))
            have hxa : Asc xP := by rw [HXP.out]; exact hasc.out
            have hxl : xP.length * 40 ≤ 140737488355328 := by rw [HXP.out]; have := hP9; omega
            have HPR := Lib.hid (pairs_any w w8 sb cb g ⟨xd, xh, xP, xs⟩ HS8.out hxa hxl)
            have HSM : Hid (sameL xP (x.P) = true) := Lib.hid (by rw [HXP.out]; exact sameL_self _)
            have HCR : ∀ W, Mine w W g xd → Hid (Calls Try.prog 18 #[.pointer (some ⟨g, 0, none⟩), .int .i64 0, .int .i64 0] W fun e w' => e = .returned (.tuple #[]) ∧ Mine w w' g (xd.cSt 0 0) ∧ OthersD W w') := fun W hM => Lib.hid (crash_mine hM 0 0 (Nat.le_trans HWT.out (by omega)))
            clear hxa
            go_wp2_with (first
              | (go_at_call 17; (with_reducible refine HPR.out.mono ?_); rintro e9 w9 ⟨A9, n9, c9, rfl, ho9, hb9⟩; have HP9 := Lib.hid (own_hcG ho9).1; have HS9 := Lib.hid (HS8.out.below hb9); have HW9 := Lib.hid (own_belowG HW8.out hb9); have HN9 := Lib.hid (own_belowG HN8.out hb9); have HX9 : Hid (w9.heap[bx]? = some (.cells #[.int .i64 (-1), .int .i64 0, .int .i64 0] 33 (0, 0))) := Lib.hid ((hb9.block bx (Array.getElem?_eq_some_iff.1 HX8.out).1).trans HX8.out); have h940 : n9 * 40 ≤ 140737488355328 := (by have := HP9.out.1; rw [← this]; exact hxl); clear ho9 hb9 HPR)
              | (go_at_call 16; (with_reducible refine (Same_any w9 A9 A0 n9 c9 n0 c0 xP x.P HP9.out (own_hcG HW9.out).1 h940).mono ?_); rintro e10 w10 ⟨rfl, hb10⟩; rw [HSM.out]; have HS10 := Lib.hid (HS9.out.below hb10); have HW10 := Lib.hid (own_belowG HW9.out hb10); have HN10 := Lib.hid (own_belowG HN9.out hb10); obtain ⟨xc0, xc1, xc2⟩ := box3 ((hb10.block bx (Array.getElem?_eq_some_iff.1 HX9.out).1).trans HX9.out); clear hb10)
              | (go_at_call 18; refine (HCR _ HS10.out.m).out.mono ?_; rintro e11 w11 ⟨rfl, hm11, ho11⟩; have HM11 := Lib.hid hm11; have HW11 := Lib.hid (told_othersD HW10.out ho11); have HN11 := Lib.hid (told_othersD HN10.out ho11); clear hm11 ho11))
            have HOP := Lib.hid (open_any w w11 g (xd.cSt 0 0) HM11.out HUP.out.1 HUP.out.2.1 HUP.out.2.2 a' bs' HOK.out)
            refine HOP.out.mono ?_
            rintro e12 w12 ⟨sb2, cb2, rfl, hx12, ho12, _⟩
            rw [HALL.out] at hx12
            have HX12 := Lib.hid hx12
            have HW12 := Lib.hid (told_othersD HW11.out ho12)
            have HN12 := Lib.hid (told_othersD HN11.out ho12)
            clear hx12 ho12 HOP HM11 HW11 HN11 HS8 HW8 HN8 HX8 HS9 HW9 HN9 HX9 HS10 HW10 HN10 HP9 xc0 xc1 xc2
            have hPl : P'.length * 40 ≤ 140737488355328 := by omega
            have HPR2 := Lib.hid (pairs_any w w12 sb2 cb2 g ⟨mend (xd.cSt 0 0), openH (xd.cSt 0 0), P', false⟩ HX12.out HPA.out hPl)
            go_wp2_with (go_at_call 17; (with_reducible refine HPR2.out.mono ?_); rintro e13 w13 ⟨A13, n13, c13, rfl, ho13, hb13⟩; have HG13 := Lib.hid (own_mono ho13 (show w.heap.size ≤ w12.heap.size from HX12.out.b.size)); have HX13 := Lib.hid (HX12.out.below hb13); have HW13 := Lib.hid (own_belowG HW12.out hb13); have HN13 := Lib.hid (own_belowG HN12.out hb13); have h1340 : n13 * 40 ≤ 140737488355328 := (by have h13 : P'.length = n13 := (own_hcG HG13.out).1.1; rw [← h13]; exact hPl); clear ho13 hb13 HPR2)
            by_cases hq : sameL P' (allC x.P l) = true
            · have HQ := Lib.hid hq
              clear hq
              go_wp2_with (first
                | (go_at_call 16; (with_reducible refine (Same_any w13 A13 A8 n13 c13 n8 c8 P' (allC x.P l) (own_hcG HG13.out).1 (own_hcG HN13.out).1 h1340).mono ?_); rintro e14 w14 ⟨rfl, hb14⟩; rw [HQ.out]; have HG14 := Lib.hid (own_belowG HG13.out hb14); have HX14 := Lib.hid (HX13.out.below hb14); have HW14 := Lib.hid (own_belowG HW13.out hb14); have HN14 := Lib.hid (own_belowG HN13.out hb14); clear hb14)
                | (go_at_call 16; (with_reducible refine (Same_any w14 A13 A0 n13 c13 n0 c0 P' x.P (own_hcG HG14.out).1 (own_hcG HW14.out).1 h1340).mono ?_); rintro e15 w15 ⟨rfl, hb15⟩; rw [HQ2.out]; have HG15 := Lib.hid (own_belowG HG14.out hb15); have HX15 := Lib.hid (HX14.out.below hb15); have HW15 := Lib.hid (own_belowG HW14.out hb15); have HN15 := Lib.hid (own_belowG HN14.out hb15); clear hb15))
              go_roundg (L - (i + 1))
              case measure => omega
              case rel => exact ⟨i + 1, sb2, cb2, ⟨mend (xd.cSt 0 0), openH (xd.cSt 0 0), P', false⟩, T', a', en', cn', bs', A13, n13, c13, by go_num, rfl, rfl, by omega, by omega, Nat.le_refl _, by omega, Lib.hid ⟨HX15.out, HMD.out.1, HMD.out.2.1, HMD.out.2.2, HG15.out, HFP.out.mono (by omega)⟩⟩
            · have HQ : Hid (sameL P' (allC x.P l) = false) := Lib.hid (by simpa using hq)
              clear hq
              go_wp2_with (first
                | (go_at_call 16; (with_reducible refine (Same_any w13 A13 A8 n13 c13 n8 c8 P' (allC x.P l) (own_hcG HG13.out).1 (own_hcG HN13.out).1 h1340).mono ?_); rintro e14 w14 ⟨rfl, hb14⟩; rw [HQ.out]; have HG14 := Lib.hid (own_belowG HG13.out hb14); have HX14 := Lib.hid (HX13.out.below hb14); have HW14 := Lib.hid (own_belowG HW13.out hb14); have HN14 := Lib.hid (own_belowG HN13.out hb14); clear hb14)
                | (go_at_call 16; (with_reducible refine (Same_any w14 A13 A0 n13 c13 n0 c0 P' x.P (own_hcG HG14.out).1 (own_hcG HW14.out).1 h1340).mono ?_); rintro e15 w15 ⟨rfl, hb15⟩; rw [HQ2.out]; have HG15 := Lib.hid (own_belowG HG14.out hb15); have HX15 := Lib.hid (HX14.out.below hb15); have HW15 := Lib.hid (own_belowG HW14.out hb15); have HN15 := Lib.hid (own_belowG HN14.out hb15); clear hb15)
                | (go_at_call 16; (with_reducible refine (Same_any w15 A13 A0 n13 c13 n0 c0 P' x.P (own_hcG HG15.out).1 (own_hcG HW15.out).1 h1340).mono ?_); rintro e16 w16 ⟨rfl, hb16⟩; rw [HQ2.out]; have HG16 := Lib.hid (own_belowG HG15.out hb16); have HX16 := Lib.hid (HX15.out.below hb16); have HW16 := Lib.hid (own_belowG HW15.out hb16); have HN16 := Lib.hid (own_belowG HN15.out hb16); clear hb16))
              go_roundg (L - (i + 1))
              case measure => omega
              case rel => exact ⟨i + 1, sb2, cb2, ⟨mend (xd.cSt 0 0), openH (xd.cSt 0 0), P', false⟩, T', a', en', cn', bs', A13, n13, c13, by go_num, rfl, rfl, by omega, by omega, Nat.le_refl _, by omega, Lib.hid ⟨HX16.out, HMD.out.1, HMD.out.2.1, HMD.out.2.2, HG16.out, HFP.out.mono (by omega)⟩⟩
      · have hlt30 : ¬ (i : Int) < 30 := by omega
        go_wp2_with fail
        go_ret
        exact ⟨rfl, HB.out.sm.b⟩
    · have hltz : ¬ (i : Int) < (L : Int) := by omega
      go_wp2_with fail
      go_ret
      exact ⟨rfl, HB.out.sm.b⟩
end Go.Proofs.Ytbfhlleipeipbaa
