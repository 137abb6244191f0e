/-
  What is proved: the texts Ka, Kb, Kw, Kp in one: what each proves stands ahead of it. Conditions: those in each statement.
-/
import Derived.Test.YtbfhlleipeipbaaM7
import Derived.Test.YtbfhlleipeipbaaOpen
import Derived.Deep.SlicePairs
/- What is proved: what a batch of at most 300 changes of at most 1048576 bytes each asks for; what a store keeps where a row of another's is changed. Conditions: those in each statement. -/
namespace Go.Proofs.Ytbfhlleipeipbaa
open Go.RowKit Go.Lib Go.Sort

theorem mem_allC : ∀ (b l : List Cg), Asc l → ∀ z ∈ allC l b, z ∈ l ∨ ∃ c ∈ b, z = bare c
  | [], l, _, z, hz => .inl hz
  | c :: b, l, hl, z, hz => by
    obtain ⟨h1, h2, _⟩ := doGo_spec (bare c) l c.gone hl
    have hz' : z ∈ allC (doC l c) b := hz
    rcases mem_allC b (doC l c) h1 z hz' with h | ⟨d, hd, e⟩
    · rcases h2 z h with ⟨_, e⟩ | h
      · exact .inr ⟨c, List.mem_cons_self .., e⟩
      · exact .inl h
    · exact .inr ⟨d, List.mem_cons_of_mem _ hd, e⟩
theorem allC_len : ∀ (b l : List Cg), (allC l b).length ≤ l.length + b.length
  | [], l => by simp [allC]
  | c :: b, l => by
    have h1 := allC_len b (doC l c)
    have h2 := doC_len l c
    have e : allC l (c :: b) = allC (doC l c) b := rfl
    rw [e, List.length_cons]
    omega
theorem chB_top (c : Cg) : (chB c).length ≤ 17 + (c.key.size + c.val.size) := by
  unfold chB txB
  have e1 : (ky c).length = c.key.size := size_toList _
  have e2 : (vl c).length = c.val.size := size_toList _
  split
  · simp only [List.length_append, dig_length, e1]
    simp
    omega
  · simp only [List.length_append, dig_length, e1, e2]
    simp
    omega
theorem chsB_top (M : Nat) : ∀ l : List Cg, (∀ y ∈ l, y.key.size + y.val.size ≤ M) → (chsB l).length ≤ l.length * (17 + M)
  | [], _ => by simp [chsB]
  | c :: l, h => by
    have h1 := chsB_top M l (fun y hy => h y (List.mem_cons_of_mem _ hy))
    have h2 := chB_top c
    have h3 := h c (List.mem_cons_self ..)
    rw [chsB_cons, List.length_append, List.length_cons, Nat.succ_mul]
    omega
/-- what the laws' batches are -/
structure Small (l : List Cg) : Prop where
  n : l.length ≤ 300
  s : ∀ y ∈ l, y.key.size + y.val.size ≤ 1048576
theorem Small.all {l : List Cg} (h : Small l) : Small (allC [] l) :=
  ⟨Nat.le_trans (allC_len l []) (by simpa using h.n), fun y hy => by
    rcases mem_allC l [] List.Pairwise.nil y hy with h1 | ⟨c, hc, rfl⟩
    · cases h1
    · exact h.s c hc⟩
theorem Small.len {l : List Cg} (h : Small l) : (chsB l).length ≤ 314577900 := by
  have h1 := chsB_top 1048576 l h.s
  have h2 := h.n
  have : l.length * (17 + 1048576) ≤ 300 * (17 + 1048576) := Nat.mul_le_mul_right _ h2
  omega
theorem Small.sized {l : List Cg} (h : Small l) : Sized [] l :=
  ⟨by rw [batB_length]; have := h.len; omega, fun y hy => Nat.le_trans (h.s y hy) (by omega), by have := h.n; simp only [List.length_nil]; omega, by have := h.all.len; omega, fun y hy => Nat.le_trans (h.all.s y hy) (by omega)⟩
/-- what Commit does to a store on a new disk, where there is room, and where there is none -/
theorem Commit_new_disk {w0 w : World} {sb cb g N : Nat} (hx : SMem w0 w sb cb g (newX N)) (hN : 4 ≤ N) (l : List Cg) (hs : Small l) (A : Option Addr) (n c : Nat) (hl : HC w A n c l) :
    Calls Try.prog 13 #[.pointer (some ⟨sb, 0, none⟩), .slice A n c] w fun e w' =>
      (e = .returned (.int .i64 0) ∧ ∃ x' a' en' cn', SMem w0 w' sb cb g x' ∧ Inv N 1 x' a' en' cn' ∧ x'.P = allC [] l ∧ OthersS w w' ∧ ∃ A n c, w'.cell? ⟨sb, 17, none⟩ = some (.slice A n c) ∧ w'.ownsRow w.heap.size 52 3 (.slice A n c) n (chV x'.P)) ∨
      (e = .returned (.int .i64 51) ∧ SMem w0 w' sb cb g (newX N) ∧ OthersS w w' ∧ ¬ fitsB N 0 (batB l).length ∧ ¬ fitsB N 0 (batB (allC [] l)).length) := by
  have hi := newX_inv (N := N) hN
  have ok := hi.cmOk hN (l := l) hs.sized
  have h := Commit_new w0 w sb cb g (newX N) 0 0 0 l hx ok rfl A n c hl
  by_cases hf : fitsB N 0 (batB l).length ∨ fitsB N 0 (batB (allC [] l)).length
  · obtain ⟨e0, hP, a', en', cn', hi'⟩ := hi.commit hN (by omega) l hf
    refine h.mono ?_
    rintro e w' ⟨rfl, hm, ho, hn⟩
    exact .inl ⟨by rw [e0], _, a', en', cn', hm, hi', hP, ho, hn e0⟩
  · obtain ⟨e0, hX⟩ := hi.refused l (fun h => hf (.inl h)) (fun h => hf (.inr h))
    refine h.mono ?_
    rintro e w' ⟨rfl, hm, ho, _⟩
    exact .inr ⟨by rw [e0], by rw [hX] at hm; exact hm, ho, fun h => hf (.inl h), fun h => hf (.inr h)⟩
/-- the pairs lie elsewhere than that row -/
def Apart (W : World) (sb : Nat) (v : Value) : Prop := ∃ A n c, W.cell? ⟨sb, 17, none⟩ = some (.slice A n c) ∧ ∀ q, v.ownBlock = some q → (Value.slice A n c).ownBlock ≠ some q
theorem SMem.chg52 {w0 W W' : World} {sb cb g q : Nat} {x : SS} {C : Array Value} {fr : Nat × Nat} (h : SMem w0 W sb cb g x) (hx : W.heap[q]? = some (.cells C 52 fr)) (hc : Chg (fun b => b = q) W W') (h0 : w0.heap.size ≤ q) {v : Value} (hv : v.ownBlock = some q) (ha : Apart W sb v) : SMem w0 W' sb cb g x ∧ Apart W' sb v := by
  have k : ∀ (b : Nat) (C' : Array Value) (t' : TypeId) (fr' : Nat × Nat), W.heap[b]? = some (.cells C' t' fr') → t' ≠ 52 → W'.heap[b]? = some (.cells C' t' fr') := fun b C' t' fr' hb' hne => (hc.block b (Array.getElem?_eq_some_iff.1 hb').1 (tag_ne hb' hx hne)).trans hb'
  obtain ⟨A, n, c, hs, hp⟩ := h.ex
  obtain ⟨A2, n2, c2, h17, hne⟩ := ha
  have e17 := hs.cells.2.2.2.1.1
  rw [h17] at e17
  have e := Option.some.inj e17
  rw [← e] at hs hp
  have hs' := k sb _ 82 (0, 0) hs (by decide)
  refine ⟨⟨h.m.frame hc (fun b hb => by subst hb; exact h0) (fun b hb => by subst hb; exact ⟨_, _, _, hx, by decide, by decide, by decide⟩), k cb _ 101 (0, 0) h.cl (by decide), ⟨A2, n2, c2, hs', ?_⟩, h.lo⟩, ⟨A2, n2, c2, (StB.cells hs').2.2.2.1.1, hne⟩⟩
  have en : n2 = n := by injection e
  subst en
  refine ⟨hp.1, ?_⟩
  rcases hp.2 with e | ⟨q', cap, cur, hv', hb', hg, r⟩
  · exact .inl e
  · refine .inr ⟨q', cap, cur, hv', hb', ?_, r⟩
    have hq : q' ≠ q := fun e => hne q hv (by rw [hv', e]; rfl)
    exact (hc.block q' (Array.getElem?_eq_some_iff.1 hg).1 hq).trans hg
end Go.Proofs.Ytbfhlleipeipbaa

/- What is proved: what stays of a store, of a row and of pairs told, where another's row is changed. Conditions: those in each statement. -/
namespace Go.Proofs.Ytbfhlleipeipbaa
open Go.RowKit Go.Lib Go.Sort

/-- a store, and a row of changes of the law's own beside it -/
structure Rw (w : World) (B sb cb g : Nat) (x : SS) (v : Value) (n : Nat) (xs : List Value) (W : World) : Prop where
  sm : SMem w W sb cb g x
  row : W.ownsRow B 52 3 v n xs
  ap : Apart W sb v
  lo : w.heap.size ≤ B
theorem Rw.len {w W : World} {B sb cb g n : Nat} {x : SS} {v : Value} {xs : List Value} (h : Rw w B sb cb g x v n xs W) : xs.length = n * 3 := h.row.1
theorem Rw.at {w W : World} {B sb cb g n : Nat} {x : SS} {v : Value} {xs : List Value} (h : Rw w B sb cb g x v n xs W) (hn : 0 < n) : ∃ q cap, v = .slice (some ⟨q, 0, none⟩) n cap := by
  rcases h.row.2 with ⟨_, e⟩ | ⟨q, cap, cur, e, _⟩
  · have := h.len; omega
  · exact ⟨q, cap, e⟩
theorem Rw.cell {w W : World} {B sb cb g n q cap : Nat} {x : SS} {xs : List Value} (h : Rw w B sb cb g x (.slice (some ⟨q, 0, none⟩) n cap) n xs W) {i : Nat} (hi : i < n * 3) : W.cell? ⟨q, i, none⟩ = xs[i]? ∧ W.frozen? ⟨q, i, none⟩ = false :=
  ⟨h.row.cellAt i hi, h.row.frozenAt i⟩
theorem row_block {W : World} {B n q cap : Nat} {xs : List Value} (h : W.ownsRow B 52 3 (.slice (some ⟨q, 0, none⟩) n cap) n xs) : ∃ C, W.heap[q]? = some (.cells C 52 (0, 0)) := by
  rcases h.2 with ⟨e, _⟩ | ⟨q', cap', cur, e, _, hg, _⟩
  · cases e
  · simp at e
    obtain ⟨rfl, rfl⟩ := e
    exact ⟨cur, hg⟩
theorem Rw.set {w W : World} {B sb cb g n q cap : Nat} {x : SS} {xs : List Value} (h : Rw w B sb cb g x (.slice (some ⟨q, 0, none⟩) n cap) n xs W) (i : Nat) (u : Value) :
    Rw w B sb cb g x (.slice (some ⟨q, 0, none⟩) n cap) n (xs.set i u) (W.setCell ⟨q, i, none⟩ u) := by
  obtain ⟨C, hC⟩ := row_block h.row
  have hc : Chg (fun b => b = q) W (W.setCell ⟨q, i, none⟩ u) := (Chg.refl (fun b => b = q) W).setCell (p := ⟨q, i, none⟩) (.inl rfl) _
  have hlt := (h.row.lt q rfl).1
  obtain ⟨h1, h2⟩ := h.sm.chg52 hC hc (Nat.le_trans h.lo hlt) rfl h.ap
  exact ⟨h1, (h.row.stored i u).1, h2, h.lo⟩
theorem Rw.below {w W W' : World} {B sb cb g n : Nat} {x : SS} {v : Value} {xs : List Value} (h : Rw w B sb cb g x v n xs W) (hb : Below W.heap.size W W') : Rw w B sb cb g x v n xs W' := by
  refine ⟨h.sm.below hb, own_belowG h.row hb, ?_, h.lo⟩
  obtain ⟨A, m, c, h1, h2⟩ := h.ap
  exact ⟨A, m, c, cell_later hb h1, h2⟩
/-- pairs told, beside such a row -/
theorem told_set {W : World} {B B' n m q cap i : Nat} {v : Value} {xs ys : List Value} {u : Value} (h : W.ownsRow B 48 3 v m ys) (hr : W.ownsRow B' 52 3 (.slice (some ⟨q, 0, none⟩) n cap) n xs) : (W.setCell ⟨q, i, none⟩ u).ownsRow B 48 3 v m ys := by
  obtain ⟨C, hC⟩ := row_block hr
  refine h.kept (hr.stored i u).2 ?_
  rcases h.2 with ⟨rfl, _⟩ | ⟨g, cap', cur, rfl, _, hg, _⟩
  · exact .inl rfl
  · refine .inr fun e => ?_
    simp [Value.ownBlock] at e
    subst e
    rw [hC] at hg
    simp at hg
/-- a row that was told now lies elsewhere than the pairs -/
theorem Apart.new {w0 w W : World} {B sb cb g n : Nat} {x : SS} {v : Value} {xs : List Value} (hx : SMem w0 w sb cb g x) (hb : Below w.heap.size w W) (hr : W.ownsRow w.heap.size 52 3 v n xs) (hB : B = w.heap.size) (hlo : w0.heap.size ≤ w.heap.size) : Rw w0 B sb cb g x v n xs W := by
  subst hB
  refine ⟨hx.below hb, hr, ?_, hlo⟩
  obtain ⟨A, m, c, hs, hp⟩ := hx.ex
  refine ⟨A, m, c, cell_later hb hs.cells.2.2.2.1.1, fun q hq e => ?_⟩
  have h1 := (hr.lt q hq).1
  have h2 := (hp.lt q e).2
  omega
/-- a row that was there lies elsewhere than pairs that are new -/
theorem Apart.old {w0 w W : World} {B sb cb g n : Nat} {x : SS} {v : Value} {xs : List Value} (hx : SMem w0 W sb cb g x) (hr : W.ownsRow B 52 3 v n xs) (hlt : ∀ q, v.ownBlock = some q → q < w.heap.size) (hn : ∃ A n c, W.cell? ⟨sb, 17, none⟩ = some (.slice A n c) ∧ W.ownsRow w.heap.size 52 3 (.slice A n c) n (chV x.P)) (hlo : w0.heap.size ≤ B) : Rw w0 B sb cb g x v n xs W := by
  refine ⟨hx, hr, ?_, hlo⟩
  obtain ⟨A, m, c, h1, h2⟩ := hn
  refine ⟨A, m, c, h1, fun q hq e => ?_⟩
  have h3 := hlt q hq
  have h4 := (h2.lt q e).1
  omega
/-- the row is as it was from there on -/
def From (l : List Cg) (j : Nat) (xs : List Value) : Prop := ∀ i, j * 3 ≤ i → xs[i]? = (chV l)[i]?
theorem From.set {l : List Cg} {j i : Nat} {xs : List Value} (h : From l j xs) (hi : i < (j + 1) * 3) (u : Value) : From l (j + 1) (xs.set i u) := by
  intro k hk
  rw [List.getElem?_set_ne (by omega)]
  exact h k (by omega)
theorem From.three {l : List Cg} {j : Nat} {xs : List Value} (h : From l j xs) (hj : j < l.length) : xs[j * 3]? = some (.string l[j].key) ∧ xs[j * 3 + 1]? = some (.string l[j].val) ∧ xs[j * 3 + 2]? = some (.bool l[j].gone) := by
  refine ⟨(h _ (by omega)).trans ?_, (h _ (by omega)).trans ?_, (h _ (by omega)).trans ?_⟩
  · rw [show j * 3 = j * 3 + 0 by omega, chV_get l j 0 hj (by omega)]; rfl
  · rw [chV_get l j 1 hj (by omega)]; rfl
  · rw [chV_get l j 2 hj (by omega)]; rfl
end Go.Proofs.Ytbfhlleipeipbaa

/- What is proved: the walk of StoreKeeps: it answers true, and turns nothing that was there. Conditions: each change's texts have at most 1048576 bytes together. -/
namespace Go.Proofs.Ytbfhlleipeipbaa
open Go.RowKit Go.Lib Go.Sort

/-- what the operations of the line yield -/
def kpF (q n cap b2 o2 c j : Nat) (xk xv : ByteArray) (xg : Bool) : Nat → Value → World → Prop
  | 0, v, _ => v = .slice (some ⟨q, 0, none⟩) n cap
  | 1, v, _ => v = .int .i64 (j : Int)
  | 2, v, _ => v = .pointer (some ⟨q, j * 3, none⟩)
  | 3, v, _ => v = .pointer (some ⟨q, j * 3, none⟩)
  | 4, v, _ => v = .string xk
  | 5, v, _ => v = .slice (some ⟨b2, o2, none⟩) n c
  | 6, v, _ => v = .int .i64 (j : Int)
  | 7, v, _ => v = .pointer (some ⟨b2, o2 + j * 3, none⟩)
  | 8, v, _ => v = .pointer (some ⟨b2, o2 + j * 3, none⟩)
  | 9, v, _ => v = .string xk
  | 10, v, _ => v = .bool false
  | 11, v, _ => v = .bool false
  | 12, v, _ => v = .slice (some ⟨q, 0, none⟩) n cap
  | 13, v, _ => v = .int .i64 (j : Int)
  | 14, v, _ => v = .pointer (some ⟨q, j * 3, none⟩)
  | 15, v, _ => v = .pointer (some ⟨q, j * 3 + 1, none⟩)
  | 16, v, _ => v = .string xv
  | 17, v, _ => v = .slice (some ⟨b2, o2, none⟩) n c
  | 18, v, _ => v = .int .i64 (j : Int)
  | 19, v, _ => v = .pointer (some ⟨b2, o2 + j * 3, none⟩)
  | 20, v, _ => v = .pointer (some ⟨b2, o2 + j * 3 + 1, none⟩)
  | 21, v, _ => v = .string xv
  | 22, v, _ => v = .bool false
  | 23, v, _ => v = .bool false
  | 24, v, _ => v = .bool false
  | 25, v, _ => v = .slice (some ⟨q, 0, none⟩) n cap
  | 26, v, _ => v = .int .i64 (j : Int)
  | 27, v, _ => v = .pointer (some ⟨q, j * 3, none⟩)
  | 28, v, _ => v = .pointer (some ⟨q, j * 3 + 2, none⟩)
  | 29, v, _ => v = .bool xg
  | 30, v, _ => v = .slice (some ⟨b2, o2, none⟩) n c
  | 31, v, _ => v = .int .i64 (j : Int)
  | 32, v, _ => v = .pointer (some ⟨b2, o2 + j * 3, none⟩)
  | 33, v, _ => v = .pointer (some ⟨b2, o2 + j * 3 + 2, none⟩)
  | 34, v, _ => v = .bool xg
  | 35, v, _ => v = .bool false
  | 36, v, _ => v = .bool false
  | _, v, _ => v = .bool false
theorem kpF_mono {q n cap b2 o2 c j : Nat} {xk xv : ByteArray} {xg : Bool} : ∀ i v (w w' : World), kpF q n cap b2 o2 c j xk xv xg i v w → w' = w → kpF q n cap b2 o2 c j xk xv xg i v w' := by
  rintro i v w w' h rfl
  exact h
set_option maxRecDepth 100000 in
set_option maxHeartbeats 4000000 in
theorem keeps_walk (A : Option Addr) (n c : Nat) (l : List Cg) (w : World) (hl : HC w A n c l) (hsm : ∀ y ∈ l, y.key.size + y.val.size ≤ 1048576) : Calls Try.prog 7 #[.slice A n c] w fun e w' => e = .returned (.bool true) ∧ Below w.heap.size w w' := by
  have HN := Lib.hid (new_mine w w 4000 (Below.refl _ _))
  have HL := Lib.hid hl
  have HSM := Lib.hid hsm
  have hln := Lib.hid hl.1
  clear hl hsm
  go_enter Try.func7, Try.ntmps7
  go_wp2_with fail
  refine HN.out.mono ?_
  rintro e1 w1 ⟨g, rfl, hm1, hb1, hg1⟩
  have hm1' : Mine w w1 g (newSt 4000) := hm1
  have HO := Lib.hid (open_new hm1' (by omega))
  clear hm1 hm1' hb1 HN
  go_wp2_with (go_at_call 9; refine HO.out.mono ?_; rintro e2 w2 ⟨sb, cb, rfl, hx2, ho2, hsb⟩; have HX2 := Lib.hid hx2; clear hx2 ho2 HO)
  refine (awake_any w2).mono ?_
  rintro e3 w3 ⟨rfl, hb3⟩
  have HX3 := Lib.hid (HX2.out.below hb3)
  clear hb3 HX2
  by_cases hfew : n ≤ 300
  rotate_left
  · have hd := decide_eq_false hfew
    go_wp2_with (go_at_call 11; refine (few_any A n c _).mono ?_; rintro e w' ⟨rfl, rfl⟩; rw [hd])
    go_ret
    exact ⟨rfl, HX3.out.b⟩
  have hd := decide_eq_true hfew
  have HSL : Hid (Small l) := Lib.hid ⟨by rw [hln.out]; exact hfew, HSM.out⟩
  have HBT := Lib.hid (batch_any A n c l w3 (HL.out.below HX3.out.b) (by omega))
  go_wp2_with (first
    | (go_at_call 11; refine (few_any A n c _).mono ?_; rintro e w' ⟨rfl, rfl⟩; rw [hd])
    | (go_at_call 14; refine HBT.out.mono ?_; rintro e4 w4 ⟨A5, n5, c5, rfl, ho4, hb4⟩; have HR4 := Lib.hid ho4; have HB4 := Lib.hid hb4; clear ho4 hb4))
  obtain rfl : n5 = n := by have := (own_hc HR4.out).1.1; rw [← this, hln.out]
  have HX4 := Lib.hid (HX3.out.below HB4.out)
  have HCM := Lib.hid (Commit_new_disk HX4.out (by omega) l HSL.out A5 n5 c5 (own_hc HR4.out).1)
  refine HCM.out.mono ?_
  rintro e5 w5 (⟨rfl, x, a', en', cn', hx5, hi5, hP5, ho5, hn5⟩ | ⟨rfl, hx5, _, _, _⟩)
  rotate_left
  · have HX5 := Lib.hid hx5
    clear hx5
    go_wp2_with fail
    go_ret
    exact ⟨rfl, HX5.out.b⟩
  have hlt4 : ∀ q, (Value.slice A5 n5 c5).ownBlock = some q → q < w4.heap.size := fun q hq => (HR4.out.lt q hq).2
  have HRW := Lib.hid (Apart.old (w := w4) hx5 (own_othersS HR4.out ho5) hlt4 hn5 HX3.out.b.size)
  have HP := Lib.hid hP5
  have HASC := Lib.hid hi5.asc
  have HLP := Lib.hid (show x.P.length * 40 ≤ 140737488355328 by rw [hP5]; have := HSL.out.all.n; omega)
  have HF0 : Hid (From l 0 (chV l)) := Lib.hid (fun i _ => rfl)
  clear hx5 hi5 hP5 ho5 hn5 hlt4 HCM HX4 HR4 HB4 HBT HX3
  generalize w3.heap.size = B at *
  generalize hcv : chV l = xs0 at HRW HF0
  clear hcv
  go_wp2_with fail
  go_loopg [6] n5 (fun kx v6 wr => ∃ (j : Nat) (xs : List Value), v6 = .int .i64 (j : Int) ∧ j ≤ n5 ∧ n5 - j ≤ kx ∧ Hid (Rw w B sb cb g x (.slice A5 n5 c5) n5 xs wr) ∧ Hid (From l j xs))
  case atStart => exact ⟨0, xs0, rfl, Nat.zero_le _, by omega, HRW, HF0⟩
  case round =>
    obtain ⟨j, xs, rfl, hjn, hkx, HRj, HFj⟩ := hrel
    by_cases hj : j < n5
    · have hltz : (j : Int) < (n5 : Int) := by omega
      obtain ⟨q, cap, e5⟩ := HRj.out.at (by omega)
      have eA : A5 = some ⟨q, 0, none⟩ := by injection e5
      have eC : c5 = cap := by injection e5
      subst eA
      subst eC
      clear e5
      have hjl : j < l.length := by rw [hln.out]; exact hj
      obtain ⟨b2, o2, rfl, hbl, f0, f1, f2⟩ := (HL.out.below HRj.out.sm.b).elem j hjl
      obtain ⟨t0, t1, t2⟩ := HFj.out.three hjl
      have c0 := (HRj.out.cell (i := j * 3) (by omega)).1.trans t0
      have c1 := (HRj.out.cell (i := j * 3 + 1) (by omega)).1.trans t1
      have c2 := (HRj.out.cell (i := j * 3 + 2) (by omega)).1.trans t2
      generalize l[j] = y at *
      obtain ⟨xk, xv, xg⟩ := y
      simp only at f0 f1 f2 c0 c1 c2
      have HST := fun W (h : Rw w B sb cb g x (.slice (some ⟨q, 0, none⟩) n5 c5) n5 xs W) => Lib.hid (h.set (j * 3) (.string ⟨#[115, 112, 111, 105, 108, 116]⟩))
      have HFS := Lib.hid (HFj.out.set (i := j * 3) (by omega) (.string ⟨#[115, 112, 111, 105, 108, 116]⟩))
      have HFR := fun W (h : Rw w B sb cb g x (.slice (some ⟨q, 0, none⟩) n5 c5) n5 xs W) => (h.cell (i := j * 3) (by omega)).2
      clear t0 t1 t2
      have hcc : (c5 : Int) ≥ 0 := by omega
      go_wp2_with fail
      have c0' : wr.drew.cell? ⟨q, j * 3, none⟩ = some (.string xk) := c0
      have c1' : wr.drew.cell? ⟨q, j * 3 + 1, none⟩ = some (.string xv) := c1
      have c2' : wr.drew.cell? ⟨q, j * 3 + 2, none⟩ = some (.bool xg) := c2
      have f0' : wr.drew.cell? ⟨b2, o2 + j * 3, none⟩ = some (.string xk) := f0
      have f1' : wr.drew.cell? ⟨b2, o2 + j * 3 + 1, none⟩ = some (.string xv) := f1
      have f2' : wr.drew.cell? ⟨b2, o2 + j * 3 + 2, none⟩ = some (.bool xg) := f2
      have HRD : Hid (Rw w B sb cb g x (.slice (some ⟨q, 0, none⟩) n5 c5) n5 xs wr.drew) := Lib.hid (HRj.out.below (Below.refl _ _).drew)
      clear c0 c1 c2 f0 f1 f2
      refine wp_region_steps (kpF q n5 c5 b2 o2 c j xk xv xg) (fun w w' => w' = w) (by kernel_rfl) (by kernel_rfl) (fun _ => rfl) (fun _ _ _ h k => k.trans h) kpF_mono ?_ ?_
      · refine ⟨?_, ?_, ?_, ?_, ?_, ?_, ?_, ?_, ?_, ?_, ?_, ?_, ?_, ?_, ?_, ?_, ?_, ?_, ?_, ?_, ?_, ?_, ?_, ?_, ?_, ?_, ?_, ?_, ?_, ?_, ?_, ?_, ?_, ?_, ?_, ?_, ?_, trivial⟩
        · intro a W hR hoff hd
          left
          refine ⟨rfl, ?_⟩
          have e0 : a.tmps.getD 5 undef = .slice (some ⟨q, 0, none⟩) n5 c5 := hoff.slot 5 (no_dst (by kernel_rfl))
          subst hR
          go_simp
          exact ⟨_, rfl, rfl, rfl⟩
        · intro a W hR hoff hd
          left
          refine ⟨rfl, ?_⟩
          have e0 : a.tmps.getD 6 undef = .int .i64 (j : Int) := hoff.slot 6 (no_dst (by kernel_rfl))
          subst hR
          go_simp
          exact ⟨_, rfl, rfl, rfl⟩
        · intro a W hR hoff hd
          left
          refine ⟨rfl, ?_⟩
          have e0 : a.tmps.getD 40 undef = .slice (some ⟨q, 0, none⟩) n5 c5 := hd 0 _ rfl rfl
          have e1 : a.tmps.getD 41 undef = .int .i64 (j : Int) := hd 1 _ rfl rfl
          subst hR
          go_simp
          exact ⟨_, rfl, rfl, rfl⟩
        · intro a W hR hoff hd
          left
          refine ⟨rfl, ?_⟩
          have e0 : a.tmps.getD 42 undef = .pointer (some ⟨q, j * 3, none⟩) := hd 2 _ rfl rfl
          subst hR
          go_simp
          exact ⟨_, rfl, rfl, rfl⟩
        · intro a W hR hoff hd
          left
          refine ⟨rfl, ?_⟩
          have e0 : a.tmps.getD 43 undef = .pointer (some ⟨q, j * 3, none⟩) := hd 3 _ rfl rfl
          subst hR
          go_simp
          exact ⟨_, rfl, rfl, rfl⟩
        · intro a W hR hoff hd
          left
          refine ⟨rfl, ?_⟩
          have e0 : a.tmps.getD 0 undef = .slice (some ⟨b2, o2, none⟩) n5 c := hoff.slot 0 (no_dst (by kernel_rfl))
          subst hR
          go_simp
          exact ⟨_, rfl, rfl, rfl⟩
        · intro a W hR hoff hd
          left
          refine ⟨rfl, ?_⟩
          have e0 : a.tmps.getD 6 undef = .int .i64 (j : Int) := hoff.slot 6 (no_dst (by kernel_rfl))
          subst hR
          go_simp
          exact ⟨_, rfl, rfl, rfl⟩
        · intro a W hR hoff hd
          left
          refine ⟨rfl, ?_⟩
          have e0 : a.tmps.getD 45 undef = .slice (some ⟨b2, o2, none⟩) n5 c := hd 5 _ rfl rfl
          have e1 : a.tmps.getD 46 undef = .int .i64 (j : Int) := hd 6 _ rfl rfl
          subst hR
          go_simp
          exact ⟨_, rfl, rfl, rfl⟩
        · intro a W hR hoff hd
          left
          refine ⟨rfl, ?_⟩
          have e0 : a.tmps.getD 47 undef = .pointer (some ⟨b2, o2 + j * 3, none⟩) := hd 7 _ rfl rfl
          subst hR
          go_simp
          exact ⟨_, rfl, rfl, rfl⟩
        · intro a W hR hoff hd
          left
          refine ⟨rfl, ?_⟩
          have e0 : a.tmps.getD 48 undef = .pointer (some ⟨b2, o2 + j * 3, none⟩) := hd 8 _ rfl rfl
          subst hR
          go_simp
          exact ⟨_, rfl, rfl, rfl⟩
        · intro a W hR hoff hd
          left
          refine ⟨rfl, ?_⟩
          have e0 : a.tmps.getD 44 undef = .string xk := hd 4 _ rfl rfl
          have e1 : a.tmps.getD 49 undef = .string xk := hd 9 _ rfl rfl
          subst hR
          go_simp
          exact ⟨_, rfl, rfl, rfl⟩
        · intro a W hR hoff hd
          left
          refine ⟨rfl, ?_⟩
          have e0 : a.tmps.getD 50 undef = .bool false := hd 10 _ rfl rfl
          subst hR
          go_simp
          exact ⟨_, rfl, rfl, rfl⟩
        · intro a W hR hoff hd
          left
          have eg : a.tmps.getD 51 undef = .bool false := hd 11 _ rfl rfl
          refine ⟨wanted_of (ops := _) (j := 11) (b := false) rfl rfl rfl eg, ?_⟩
          clear eg
          have e0 : a.tmps.getD 5 undef = .slice (some ⟨q, 0, none⟩) n5 c5 := hoff.slot 5 (no_dst (by kernel_rfl))
          subst hR
          go_simp
          exact ⟨_, rfl, rfl, rfl⟩
        · intro a W hR hoff hd
          left
          have eg : a.tmps.getD 51 undef = .bool false := hd 11 _ rfl rfl
          refine ⟨wanted_of (ops := _) (j := 11) (b := false) rfl rfl rfl eg, ?_⟩
          clear eg
          have e0 : a.tmps.getD 6 undef = .int .i64 (j : Int) := hoff.slot 6 (no_dst (by kernel_rfl))
          subst hR
          go_simp
          exact ⟨_, rfl, rfl, rfl⟩
        · intro a W hR hoff hd
          left
          have eg : a.tmps.getD 51 undef = .bool false := hd 11 _ rfl rfl
          refine ⟨wanted_of (ops := _) (j := 11) (b := false) rfl rfl rfl eg, ?_⟩
          clear eg
          have e0 : a.tmps.getD 52 undef = .slice (some ⟨q, 0, none⟩) n5 c5 := hd 12 _ rfl rfl
          have e1 : a.tmps.getD 53 undef = .int .i64 (j : Int) := hd 13 _ rfl rfl
          subst hR
          go_simp
          exact ⟨_, rfl, rfl, rfl⟩
        · intro a W hR hoff hd
          left
          have eg : a.tmps.getD 51 undef = .bool false := hd 11 _ rfl rfl
          refine ⟨wanted_of (ops := _) (j := 11) (b := false) rfl rfl rfl eg, ?_⟩
          clear eg
          have e0 : a.tmps.getD 54 undef = .pointer (some ⟨q, j * 3, none⟩) := hd 14 _ rfl rfl
          subst hR
          go_simp
          exact ⟨_, rfl, rfl, rfl⟩
        · intro a W hR hoff hd
          left
          have eg : a.tmps.getD 51 undef = .bool false := hd 11 _ rfl rfl
          refine ⟨wanted_of (ops := _) (j := 11) (b := false) rfl rfl rfl eg, ?_⟩
          clear eg
          have e0 : a.tmps.getD 55 undef = .pointer (some ⟨q, j * 3 + 1, none⟩) := hd 15 _ rfl rfl
          subst hR
          go_simp
          exact ⟨_, rfl, rfl, rfl⟩
        · intro a W hR hoff hd
          left
          have eg : a.tmps.getD 51 undef = .bool false := hd 11 _ rfl rfl
          refine ⟨wanted_of (ops := _) (j := 11) (b := false) rfl rfl rfl eg, ?_⟩
          clear eg
          have e0 : a.tmps.getD 0 undef = .slice (some ⟨b2, o2, none⟩) n5 c := hoff.slot 0 (no_dst (by kernel_rfl))
          subst hR
          go_simp
          exact ⟨_, rfl, rfl, rfl⟩
        · intro a W hR hoff hd
          left
          have eg : a.tmps.getD 51 undef = .bool false := hd 11 _ rfl rfl
          refine ⟨wanted_of (ops := _) (j := 11) (b := false) rfl rfl rfl eg, ?_⟩
          clear eg
          have e0 : a.tmps.getD 6 undef = .int .i64 (j : Int) := hoff.slot 6 (no_dst (by kernel_rfl))
          subst hR
          go_simp
          exact ⟨_, rfl, rfl, rfl⟩
        · intro a W hR hoff hd
          left
          have eg : a.tmps.getD 51 undef = .bool false := hd 11 _ rfl rfl
          refine ⟨wanted_of (ops := _) (j := 11) (b := false) rfl rfl rfl eg, ?_⟩
          clear eg
          have e0 : a.tmps.getD 57 undef = .slice (some ⟨b2, o2, none⟩) n5 c := hd 17 _ rfl rfl
          have e1 : a.tmps.getD 58 undef = .int .i64 (j : Int) := hd 18 _ rfl rfl
          subst hR
          go_simp
          exact ⟨_, rfl, rfl, rfl⟩
        · intro a W hR hoff hd
          left
          have eg : a.tmps.getD 51 undef = .bool false := hd 11 _ rfl rfl
          refine ⟨wanted_of (ops := _) (j := 11) (b := false) rfl rfl rfl eg, ?_⟩
          clear eg
          have e0 : a.tmps.getD 59 undef = .pointer (some ⟨b2, o2 + j * 3, none⟩) := hd 19 _ rfl rfl
          subst hR
          go_simp
          exact ⟨_, rfl, rfl, rfl⟩
        · intro a W hR hoff hd
          left
          have eg : a.tmps.getD 51 undef = .bool false := hd 11 _ rfl rfl
          refine ⟨wanted_of (ops := _) (j := 11) (b := false) rfl rfl rfl eg, ?_⟩
          clear eg
          have e0 : a.tmps.getD 60 undef = .pointer (some ⟨b2, o2 + j * 3 + 1, none⟩) := hd 20 _ rfl rfl
          subst hR
          go_simp
          exact ⟨_, rfl, rfl, rfl⟩
        · intro a W hR hoff hd
          left
          have eg : a.tmps.getD 51 undef = .bool false := hd 11 _ rfl rfl
          refine ⟨wanted_of (ops := _) (j := 11) (b := false) rfl rfl rfl eg, ?_⟩
          clear eg
          have e0 : a.tmps.getD 56 undef = .string xv := hd 16 _ rfl rfl
          have e1 : a.tmps.getD 61 undef = .string xv := hd 21 _ rfl rfl
          subst hR
          go_simp
          exact ⟨_, rfl, rfl, rfl⟩
        · intro a W hR hoff hd
          left
          refine ⟨rfl, ?_⟩
          have e0 : a.tmps.getD 51 undef = .bool false := hd 11 _ rfl rfl
          have e1 : a.tmps.getD 62 undef = .bool false := hd 22 _ rfl rfl
          subst hR
          go_simp
          exact ⟨_, rfl, rfl, rfl⟩
        · intro a W hR hoff hd
          left
          refine ⟨rfl, ?_⟩
          have e0 : a.tmps.getD 63 undef = .bool false := hd 23 _ rfl rfl
          subst hR
          go_simp
          exact ⟨_, rfl, rfl, rfl⟩
        · intro a W hR hoff hd
          left
          have eg : a.tmps.getD 64 undef = .bool false := hd 24 _ rfl rfl
          refine ⟨wanted_of (ops := _) (j := 24) (b := false) rfl rfl rfl eg, ?_⟩
          clear eg
          have e0 : a.tmps.getD 5 undef = .slice (some ⟨q, 0, none⟩) n5 c5 := hoff.slot 5 (no_dst (by kernel_rfl))
          subst hR
          go_simp
          exact ⟨_, rfl, rfl, rfl⟩
        · intro a W hR hoff hd
          left
          have eg : a.tmps.getD 64 undef = .bool false := hd 24 _ rfl rfl
          refine ⟨wanted_of (ops := _) (j := 24) (b := false) rfl rfl rfl eg, ?_⟩
          clear eg
          have e0 : a.tmps.getD 6 undef = .int .i64 (j : Int) := hoff.slot 6 (no_dst (by kernel_rfl))
          subst hR
          go_simp
          exact ⟨_, rfl, rfl, rfl⟩
        · intro a W hR hoff hd
          left
          have eg : a.tmps.getD 64 undef = .bool false := hd 24 _ rfl rfl
          refine ⟨wanted_of (ops := _) (j := 24) (b := false) rfl rfl rfl eg, ?_⟩
          clear eg
          have e0 : a.tmps.getD 65 undef = .slice (some ⟨q, 0, none⟩) n5 c5 := hd 25 _ rfl rfl
          have e1 : a.tmps.getD 66 undef = .int .i64 (j : Int) := hd 26 _ rfl rfl
          subst hR
          go_simp
          exact ⟨_, rfl, rfl, rfl⟩
        · intro a W hR hoff hd
          left
          have eg : a.tmps.getD 64 undef = .bool false := hd 24 _ rfl rfl
          refine ⟨wanted_of (ops := _) (j := 24) (b := false) rfl rfl rfl eg, ?_⟩
          clear eg
          have e0 : a.tmps.getD 67 undef = .pointer (some ⟨q, j * 3, none⟩) := hd 27 _ rfl rfl
          subst hR
          go_simp
          exact ⟨_, rfl, rfl, rfl⟩
        · intro a W hR hoff hd
          left
          have eg : a.tmps.getD 64 undef = .bool false := hd 24 _ rfl rfl
          refine ⟨wanted_of (ops := _) (j := 24) (b := false) rfl rfl rfl eg, ?_⟩
          clear eg
          have e0 : a.tmps.getD 68 undef = .pointer (some ⟨q, j * 3 + 2, none⟩) := hd 28 _ rfl rfl
          subst hR
          go_simp
          exact ⟨_, rfl, rfl, rfl⟩
        · intro a W hR hoff hd
          left
          have eg : a.tmps.getD 64 undef = .bool false := hd 24 _ rfl rfl
          refine ⟨wanted_of (ops := _) (j := 24) (b := false) rfl rfl rfl eg, ?_⟩
          clear eg
          have e0 : a.tmps.getD 0 undef = .slice (some ⟨b2, o2, none⟩) n5 c := hoff.slot 0 (no_dst (by kernel_rfl))
          subst hR
          go_simp
          exact ⟨_, rfl, rfl, rfl⟩
        · intro a W hR hoff hd
          left
          have eg : a.tmps.getD 64 undef = .bool false := hd 24 _ rfl rfl
          refine ⟨wanted_of (ops := _) (j := 24) (b := false) rfl rfl rfl eg, ?_⟩
          clear eg
          have e0 : a.tmps.getD 6 undef = .int .i64 (j : Int) := hoff.slot 6 (no_dst (by kernel_rfl))
          subst hR
          go_simp
          exact ⟨_, rfl, rfl, rfl⟩
        · intro a W hR hoff hd
          left
          have eg : a.tmps.getD 64 undef = .bool false := hd 24 _ rfl rfl
          refine ⟨wanted_of (ops := _) (j := 24) (b := false) rfl rfl rfl eg, ?_⟩
          clear eg
          have e0 : a.tmps.getD 70 undef = .slice (some ⟨b2, o2, none⟩) n5 c := hd 30 _ rfl rfl
          have e1 : a.tmps.getD 71 undef = .int .i64 (j : Int) := hd 31 _ rfl rfl
          subst hR
          go_simp
          exact ⟨_, rfl, rfl, rfl⟩
        · intro a W hR hoff hd
          left
          have eg : a.tmps.getD 64 undef = .bool false := hd 24 _ rfl rfl
          refine ⟨wanted_of (ops := _) (j := 24) (b := false) rfl rfl rfl eg, ?_⟩
          clear eg
          have e0 : a.tmps.getD 72 undef = .pointer (some ⟨b2, o2 + j * 3, none⟩) := hd 32 _ rfl rfl
          subst hR
          go_simp
          exact ⟨_, rfl, rfl, rfl⟩
        · intro a W hR hoff hd
          left
          have eg : a.tmps.getD 64 undef = .bool false := hd 24 _ rfl rfl
          refine ⟨wanted_of (ops := _) (j := 24) (b := false) rfl rfl rfl eg, ?_⟩
          clear eg
          have e0 : a.tmps.getD 73 undef = .pointer (some ⟨b2, o2 + j * 3 + 2, none⟩) := hd 33 _ rfl rfl
          subst hR
          go_simp
          exact ⟨_, rfl, rfl, rfl⟩
        · intro a W hR hoff hd
          left
          have eg : a.tmps.getD 64 undef = .bool false := hd 24 _ rfl rfl
          refine ⟨wanted_of (ops := _) (j := 24) (b := false) rfl rfl rfl eg, ?_⟩
          clear eg
          have e0 : a.tmps.getD 69 undef = .bool xg := hd 29 _ rfl rfl
          have e1 : a.tmps.getD 74 undef = .bool xg := hd 34 _ rfl rfl
          subst hR
          go_simp
          exact ⟨_, rfl, rfl, rfl⟩
        · intro a W hR hoff hd
          left
          refine ⟨rfl, ?_⟩
          have e0 : a.tmps.getD 64 undef = .bool false := hd 24 _ rfl rfl
          have e1 : a.tmps.getD 75 undef = .bool false := hd 35 _ rfl rfl
          subst hR
          go_simp
          exact ⟨_, rfl, rfl, rfl⟩
      · intro a W hR hoff hd
        rename_i hK
        have e76 : a.tmps.getD 76 undef = .bool false := hd 36 _ rfl
        subst hR
        obtain ⟨ys, hys, ha⟩ := off_form hoff (mask := [false, false, false, false, false, false, false, false, false, false, false, false, false, false, false, false, false, false, false, false, false, false, false, false, false, false, false, false, false, false, false, false, false, false, false, false, false, false, false, false, true, true, true, true, true, true, true, true, true, true, true, true, true, true, true, true, true, true, true, true, true, true, true, true, true, true, true, true, true, true, true, true, true, true, true, true, true, false, false, false, false, false, false, false, false, false, false, false, false, false, false, false, false, false, false, false, false, false, false, false, false, false, false, false, false]) (by kernel_rfl)
        rw [hys] at e76
        clear hd hoff hys
        subst ha
        simp only [fillFrom, e76, Nat.zero_add, Nat.reduceAdd]
        have HR2 := HST _ HRD.out
        have hfz := HFR _ HRD.out
        clear HST HFR
        refine hK _ _ ?_
        go_wp2_with fail
        go_roundg (n5 - (j + 1))
        case measure => omega
        case rel => exact ⟨j + 1, _, by go_num, by omega, Nat.le_refl _, HR2, HFS⟩
    · obtain rfl : j = n5 := by omega
      have HX6 := Lib.hid HRj.out.sm
      have HPR := Lib.hid (pairs_any w wr sb cb g x HX6.out HASC.out HLP.out)
      clear HRj HFj HRW HF0
      go_wp2_with (go_at_call 17; refine HPR.out.mono ?_; rintro e6 w6 ⟨A7, n7, c7, rfl, ho6, hb6⟩; have HW6 := Lib.hid ho6; have HX7 := Lib.hid (HX6.out.below hb6); clear ho6 hb6 HX6)
      have HUN := Lib.hid (Under_any w w6 sb cb g x HX7.out HASC.out HLP.out ⟨#[]⟩)
      refine HUN.out.mono ?_
      rintro e7 w7 ⟨A8, n8, c8, rfl, ho7, hb7⟩
      have HW7 := Lib.hid (own_belowG HW6.out hb7)
      have hn8 : n8 ≤ 300 := by
        have h1 := (own_hc ho7).1.1
        rw [show (⟨#[]⟩ : ByteArray).data.toList = [] from rfl, und_nil, HP.out] at h1
        have := HSL.out.all.n
        omega
      have HR7 := Lib.hid (Apart.new HX7.out hb7 ho7 rfl HX7.out.b.size)
      clear ho7 hb7 HX7 HW6 HUN HPR
      generalize w6.heap.size = B8 at *
      generalize wr.heap.size = B7 at *
      generalize chV (undL x.P (⟨#[]⟩ : ByteArray).data.toList) = xs8 at *
      go_wp2_with fail
      go_loopg [9] n8 (fun kx v9 wq => ∃ (i : Nat) (xs : List Value), v9 = .int .i64 (i : Int) ∧ i ≤ n8 ∧ n8 - i ≤ kx ∧ Hid (Rw w B8 sb cb g x (.slice A8 n8 c8) n8 xs wq) ∧ Hid (wq.ownsRow B7 48 3 (.slice A7 n7 c7) n7 (chV x.P)))
      case atStart => exact ⟨0, xs8, rfl, Nat.zero_le _, by omega, HR7, HW7⟩
      case round =>
        obtain ⟨i, xs, rfl, hin, hkx2, HRi, HWi⟩ := hrel
        by_cases hi : i < n8
        · have hltz : (i : Int) < (n8 : Int) := by omega
          obtain ⟨q, cap, e5⟩ := HRi.out.at (by omega)
          have eA : A8 = some ⟨q, 0, none⟩ := by injection e5
          have eC : c8 = cap := by injection e5
          subst eA
          subst eC
          clear e5
          have hxl := HRi.out.len
          obtain ⟨u0, hu0⟩ : ∃ u, xs[i * 3 + 1]? = some u := ⟨xs[i * 3 + 1]'(by omega), List.getElem?_eq_getElem (by omega)⟩
          have hce := (HRi.out.cell (i := i * 3 + 1) (by omega)).1.trans hu0
          have hfz := (HRi.out.cell (i := i * 3 + 1) (by omega)).2
          have HS1 := Lib.hid (HRi.out.set (i * 3 + 1) (.string ⟨#[115, 112, 111, 105, 108, 116]⟩))
          have HS2 := Lib.hid (told_set (i := i * 3 + 1) (u := .string ⟨#[115, 112, 111, 105, 108, 116]⟩) HWi.out HRi.out.row)
          clear HRi HWi hu0 hxl
          go_wp2_with fail
          go_roundg (n8 - (i + 1))
          case measure => omega
          case rel => exact ⟨i + 1, _, by go_num, by omega, Nat.le_refl _, HS1, HS2⟩
        · obtain rfl : i = n8 := by omega
          have HX8 := Lib.hid HRi.out.sm
          have HPR := Lib.hid (pairs_any w _ sb cb g x HX8.out HASC.out HLP.out)
          have hl7 : n7 = x.P.length := by have := (own_hcG HWi.out).1.1; omega
          have hl40 := HLP.out
          have hn0 : l.length ≤ 300 := HSL.out.n
          have h740 : n7 * 40 ≤ 140737488355328 := by rw [hl7]; exact hl40
          clear hl7
          have hA40 : ∀ m, l.length = m → (0 + m + 1) * 40 ≤ 140737488355328 := by intro m hm; omega
          clear HRi
          go_wp2_with (first
            | (go_at_call 17; refine HPR.out.mono ?_; rintro e8 w8 ⟨A9, n9, c9, rfl, ho8, hb8⟩; have HW8 := Lib.hid (own_hcG ho8).1; have HWW := Lib.hid (own_hcG (own_belowG HWi.out hb8)).1; have h940 : n9 * 40 ≤ 140737488355328 := (by have := HW8.out.1; rw [← this]; exact hl40); have HX9 := Lib.hid (HX8.out.below hb8); clear ho8 hb8 HX8 HPR)
            | (go_at_call 16; (with_reducible refine (Same_any w8 A9 A7 n9 c9 n7 c7 x.P x.P HW8.out HWW.out h940).mono ?_); rintro e9 w9 ⟨rfl, hb9⟩; rw [sameL_self]; have HX10 := Lib.hid (HX9.out.below hb9); have HW9 := Lib.hid (HWW.out.below hb9); have HL9 := Lib.hid (HL.out.below HX10.out.b); clear hb9 HX9 HWW HW8)
            | (go_at_call 15; refine (All_any none A 0 0 _ c [] l w9 (HC.nil _ _ (.inl rfl)) HL9.out (hA40 _ hln.out)).mono ?_; rintro e10 w10 ⟨A10, n10, c10, rfl, hh10, _, hb10⟩; have HX11 := Lib.hid (HX10.out.below hb10); have HW10 := Lib.hid (HW9.out.below hb10); have HH10 := Lib.hid hh10; clear hh10 hb10 HX10)
            | (go_at_call 16; (with_reducible refine (Same_any w10 A7 A10 n7 c7 n10 c10 x.P (allC [] l) HW10.out HH10.out h740).mono ?_); rintro e11 w11 ⟨rfl, hb11⟩; rw [← HP.out, sameL_self]; have HX12 := Lib.hid (HX11.out.below hb11); clear hb11 HX11))
          go_ret
          exact ⟨rfl, HX12.out.b⟩
end Go.Proofs.Ytbfhlleipeipbaa

/- What is proved: how a slice of changes that comes in reads, and what the bound on what comes in says of it. Conditions: those in each statement. -/
namespace Go.Proofs.Ytbfhlleipeipbaa
open Go.ChangeShapes Go.WideShapes Go.ChangeAt Go.RowKit Go.Lib Go.Sort

theorem okWide_spot {P : Program} {w : World} {r : Reach} {base : Nat} {t e : TypeId} {A : Option Addr} {n c : Nat} (ht : P.underlying t = some (.slice e)) (h : Value.okWide P w r base t (.slice A n c)) : A = none ∨ ∃ b o, A = some ⟨b, o, none⟩ := by
  cases A with
  | none => exact .inl rfl
  | some a =>
    simp only [Value.okWide, ht, Cell.okWide, Cell.ok] at h
    obtain ⟨b, o, s⟩ := a
    obtain rfl : s = none := h.2.2.2.1
    exact .inr ⟨b, o, rfl⟩
theorem three_of {α : Type} (l : List α) (h : l.length = 3) : ∃ a b c, l = [a, b, c] := by
  match l, h with
  | [a, b, c], _ => exact ⟨a, b, c, rfl⟩
theorem bulk_str {H : Type} (s : ByteArray) : Rows.uptoBulk (DataW.lit (H := H) (.string s.data.toList)) = s.size + 1 := bulk_string s
/-- one change, from its three cells -/
theorem open_ch {H : Type} {enc : TypeId × Value → H} {W : World} {n : Nat} {a : Addr} {cs : List Value} {x : DataW H × List MemPlace} (hc : W.cells? 0 a 3 = some cs) (h : DataW.trod enc Try.prog W 0 (fun _ => true) true n 48 cs = some x) :
    ∃ y : Cg, W.cell? a = some (.string y.key) ∧ W.cell? (a.add 1) = some (.string y.val) ∧ W.cell? (a.add 2) = some (.bool y.gone) ∧ y.key.size + y.val.size ≤ Rows.uptoBulk x.1 := by
  obtain ⟨_, hlen, hcell⟩ := World.cells?_some hc
  obtain ⟨xs, k, _, hx', _, hxl, hf⟩ := DataW.trod_struct Try.underlying48 h
  obtain ⟨v0, v1, v2, rfl⟩ := three_of cs hlen
  obtain ⟨y0, y1, y2, rfl⟩ := three_of xs (by simpa using hxl)
  have c9 : Try.prog.cellsOf 9 = 1 := by kernel_rfl
  have c4 : Try.prog.cellsOf 4 = 1 := by kernel_rfl
  have g0 := hf 0 _ rfl
  have g1 := hf 1 _ rfl
  have g2 := hf 2 _ rfl
  obtain ⟨a0, e0, z0, _⟩ := DataW.trod_string Try.underlying9 (x := y0) (by simpa [c9] using g0)
  obtain ⟨a1, e1, z1, _⟩ := DataW.trod_string Try.underlying9 (x := y1) (by simpa [c9] using g1)
  obtain ⟨a2, e2, z2⟩ := DataW.trod_bool Try.underlying4 (x := y2) (by simpa [c4] using g2)
  simp at e0 e1 e2
  subst e0 e1 e2 z0 z1 z2
  have q0 := hcell 0 (by omega)
  have q1 := hcell 1 (by omega)
  have q2 := hcell 2 (by omega)
  refine ⟨⟨a0, a1, a2⟩, by simpa [Addr.add] using q0, by simpa using q1, by simpa using q2, ?_⟩
  rw [hx']
  simp only [List.map_cons, List.map_nil, Rows.uptoBulk, Rows.uptoBulkAll]
  have h0 := bulk_str (H := H) a0
  have h1 := bulk_str (H := H) a1
  simp only [Rows.uptoBulk] at h0 h1
  omega
theorem bulk_each {H : Type} (D : Nat → DataW H) : ∀ (n i : Nat), i < n → Rows.uptoBulk (D i) ≤ Rows.uptoBulkAll ((List.range n).map D) := by
  intro n
  induction n with
  | zero => intro i hi; omega
  | succ n ih =>
    intro i hi
    have app : ∀ (l r : List (DataW H)), Rows.uptoBulkAll (l ++ r) = Rows.uptoBulkAll l + Rows.uptoBulkAll r := by
      intro l r
      induction l with
      | nil => simp [Rows.uptoBulkAll]
      | cons x l ih => simp only [List.cons_append, Rows.uptoBulkAll, ih]; omega
    rw [List.range_succ, List.map_append, app]
    simp only [List.map_cons, List.map_nil, Rows.uptoBulkAll]
    by_cases h : i = n
    · subst h; omega
    · have := ih i (by omega); omega
/-- a batch that comes in -/
theorem open_chs {H : Type} {enc : TypeId × Value → H} {W : World} {A : Option Addr} {N C : Nat} {d : DataW H} {p : List MemPlace} (hA : A = none ∨ ∃ b o, A = some ⟨b, o, none⟩) (h : DataW.Trod enc Try.prog W 0 (fun _ => true) true 31 (.slice A N C) d p)
    (hfz : ∀ b off, MemPlace.cell b off ∈ p → W.frozen? ⟨b, off, none⟩ = false) (hbu : Rows.uptoBulk d ≤ 1048576) :
    ∃ l : List Cg, HC W A N C l ∧ (∀ y ∈ l, y.key.size + y.val.size ≤ 1048576) ∧ N + 1 ≤ Rows.uptoBulk d := by
  obtain ⟨fuel, hf⟩ := h
  rcases Deep.open_slice Try.underlying31 hf with ⟨hcs, hx⟩ | ⟨x, n', c', m, n, D, Pl, hcs, _, hl, hm, hz, hx, hcell⟩
  · simp [Value.cells] at hcs
    obtain ⟨rfl, rfl, rfl⟩ := hcs
    have hd : d = .nil := by injection hx
    subst hd
    exact ⟨[], HC.nil _ _ (.inl rfl), by simp, by simp [Rows.uptoBulk]⟩
  · simp [Value.cells] at hcs
    obtain ⟨rfl, rfl, rfl⟩ := hcs
    simp only [if_true] at hz
    subst hz
    obtain ⟨b, off, rfl⟩ : ∃ b o, x = ⟨b, o, none⟩ := by
      rcases hA with e | ⟨b, o, e⟩
      · cases e
      · exact ⟨b, o, Option.some.inj e⟩
    have hd : d = .slice ((List.range N).map D) ((List.range (m - N)).map fun j => D (N + j)) := by injection hx
    have hp : p = MemPlace.row ⟨b, off, none⟩ (m * Try.prog.cellsOf 48) ++ (List.range m).flatMap Pl := by injection hx
    have hbu' := hbu
    rw [hd] at hbu'
    simp only [Rows.uptoBulk] at hbu'
    have ce : Try.prog.cellsOf 48 = 3 := by kernel_rfl
    have each : ∀ i, i < N → ∃ q : Cg, W.cell? ((⟨b, off, none⟩ : Addr).add (i * 3)) = some (.string q.key) ∧ W.cell? (((⟨b, off, none⟩ : Addr).add (i * 3)).add 1) = some (.string q.val) ∧ W.cell? (((⟨b, off, none⟩ : Addr).add (i * 3)).add 2) = some (.bool q.gone) ∧ q.key.size + q.val.size ≤ 1048576 := by
      intro i hi
      obtain ⟨cs', h1, h2⟩ := hcell i (by omega)
      rw [ce] at h1
      have hbi := bulk_each D N i hi
      obtain ⟨y, k0, k1, k2, k3⟩ := open_ch h1 h2
      refine ⟨y, k0, k1, k2, ?_⟩
      have k3' : y.key.size + y.val.size ≤ Rows.uptoBulk (D i) := k3
      omega
    obtain ⟨q, hq⟩ := Deep.choose_lt each
    have hbl := bulk_list ((List.range N).map D)
    refine ⟨(List.range N).map q, ⟨by simp, hl, fun hN => ⟨b, off, rfl, ?_, fun u hu => ?_⟩, .inr ⟨b, off, rfl⟩⟩, ?_, ?_⟩
    · have := (hq 0 hN).1
      exact World.block_lt_of_cell? W _ this
    · have hu' : u < ((List.range N).map q).length * 3 := by simpa using hu
      have hu2 : u < N * 3 := by simpa using hu
      rw [flatK_get3 _ u hu']
      refine ⟨?_, hfz b (off + u) ?_⟩
      · obtain ⟨i, t, ht, rfl⟩ : ∃ i t, t < 3 ∧ u = i * 3 + t := ⟨u / 3, u % 3, Nat.mod_lt _ (by omega), by omega⟩
        have hi : i < N := by omega
        obtain ⟨h0, h1, h2, _⟩ := hq i hi
        simp only [Addr.add_lit] at h0 h1 h2
        have hg := chV_get ((List.range N).map q) i t (by simpa using hi) ht
        have hl3 : i * 3 + t < (chV ((List.range N).map q)).length := by rw [chV_length]; simpa using hu2
        rw [List.getElem?_eq_getElem hl3] at hg
        have hgi : ((List.range N).map q)[i]'(by simpa using hi) = q i := by simp
        rw [hgi] at hg
        rw [← Nat.add_assoc]
        show W.cell? _ = some (id (chV ((List.range N).map q))[i * 3 + t])
        rw [id, hg]
        match t, ht with
        | 0, _ => exact h0
        | 1, _ => exact h1
        | 2, _ => exact h2
      · rw [hp]
        refine List.mem_append_left _ (List.mem_map.2 ⟨u, List.mem_range.2 ?_, rfl⟩)
        rw [ce]
        have : N * 3 ≤ m * 3 := Nat.mul_le_mul_right 3 hl
        omega
    · intro y hy
      obtain ⟨i, hi, rfl⟩ := List.mem_map.1 hy
      exact (hq i (List.mem_range.1 hi)).2.2.2
    · rw [hd]
      simp only [Rows.uptoBulk]
      simp at hbl
      omega
end Go.Proofs.Ytbfhlleipeipbaa
