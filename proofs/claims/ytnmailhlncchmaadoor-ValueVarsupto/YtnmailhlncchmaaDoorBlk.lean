/-
  What is proved: laws of blocks, of rows of rows of one length, and of what a call changes; a new variable, a copy of single cells, a struct that is built of one field. Conditions: none of a program.
-/
import Derived.Test.YtnmailhlncchmaaDoorOwn
import Derived.Deep.MidRow
import Derived.Deep.WholeRow
import Derived.Laws.CopyOwn
import Derived.Laws.MakeOwn
import Derived.Great.BuildSlice
namespace Go.Proofs.YtnmailhlncchmaaDoor
open Go.RowKit

/-! ### rows of rows -/
theorem flat_length {α : Type} (s : Nat) : ∀ (ls : List (List α)), (∀ l ∈ ls, l.length = s) → ls.flatten.length = ls.length * s := by
  intro ls
  induction ls with
  | nil => intro _; simp
  | cons l ls ih =>
    intro h
    rw [List.flatten_cons, List.length_append, ih (fun x hx => h x (by simp [hx])), h l (by simp), List.length_cons, Nat.succ_mul]
    omega
theorem flat_get {α : Type} (s : Nat) : ∀ (ls : List (List α)), (∀ l ∈ ls, l.length = s) → ∀ (k j : Nat) (hk : k < ls.length), j < s → ls.flatten[k * s + j]? = ls[k][j]? := by
  intro ls
  induction ls with
  | nil => intro _ k j hk; simp at hk
  | cons l ls ih =>
    intro h k j hk hj
    have hl := h l (by simp)
    cases k with
    | zero =>
      rw [List.flatten_cons, List.getElem?_append_left (by omega)]
      simp
    | succ k =>
      rw [List.flatten_cons, List.getElem?_append_right (by rw [hl, Nat.succ_mul]; omega), hl]
      have e : (k + 1) * s + j - s = k * s + j := by rw [Nat.succ_mul]; omega
      rw [e, ih (fun x hx => h x (by simp [hx])) k j (by simpa using hk) hj]
      simp
theorem flat_set {α : Type} (s : Nat) : ∀ (ls : List (List α)), (∀ l ∈ ls, l.length = s) → ∀ (k : Nat), k < ls.length → ∀ (x : List α), x.length = s → (ls.set k x).flatten = splice ls.flatten (k * s) x := by
  intro ls h k hk x hx
  apply List.ext_getElem?
  intro i
  have hlen := flat_length s ls h
  have hset : ∀ l ∈ ls.set k x, l.length = s := by
    intro l hl
    rcases List.mem_or_eq_of_mem_set hl with h1 | rfl
    · exact h l h1
    · exact hx
  have hlen2 := flat_length s (ls.set k x) hset
  rw [List.length_set] at hlen2
  have hle : k * s + s ≤ ls.length * s := by rw [← Nat.succ_mul]; exact Nat.mul_le_mul_right _ hk
  by_cases hi : i < ls.length * s
  · by_cases hs : s = 0
    · subst hs; omega
    · have hq : i / s < ls.length := (Nat.div_lt_iff_lt_mul (by omega)).2 hi
      have hr : i % s < s := Nat.mod_lt _ (by omega)
      have hi2 : i = i / s * s + i % s := by rw [Nat.mul_comm]; exact (Nat.div_add_mod i s).symm
      have e1 := flat_get s (ls.set k x) hset (i / s) (i % s) (by rwa [List.length_set]) hr
      have e2 := flat_get s ls h (i / s) (i % s) hq hr
      rw [← hi2] at e1 e2
      rw [e1]
      unfold splice
      rcases Nat.lt_trichotomy (i / s) k with hlt | heq | hgt
      · have : i < k * s := by
          have h1 : (i / s + 1) * s ≤ k * s := Nat.mul_le_mul_right _ hlt
          rw [Nat.succ_mul] at h1
          omega
        rw [List.getElem?_append_left (by rw [List.length_take]; omega), List.getElem?_take, if_pos this, e2]
        rw [List.getElem_set_ne (by omega)]
      · have h1 : k * s ≤ i := by rw [← heq]; omega
        have h2 : i - k * s = i % s := by rw [← heq]; omega
        have ht : (ls.flatten.take (k * s)).length = k * s := by rw [List.length_take]; omega
        rw [List.getElem?_append_right (by rw [ht]; exact h1), ht, h2, List.getElem?_append_left (by omega)]
        subst heq
        simp
      · have h0 : (k + 1) * s ≤ i / s * s := Nat.mul_le_mul_right _ hgt
        rw [Nat.succ_mul] at h0
        have ht : (ls.flatten.take (k * s)).length = k * s := by rw [List.length_take]; omega
        rw [List.getElem?_append_right (by rw [ht]; omega), ht, List.getElem?_append_right (by omega), List.getElem?_drop, hx]
        have e3 : k * s + s + (i - k * s - s) = i := by omega
        rw [e3, e2, List.getElem_set_ne (by omega)]
  · rw [List.getElem?_eq_none (by omega), List.getElem?_eq_none (by rw [length_splice _ _ _ (by omega)]; omega)]

/-! ### blocks -/
theorem heap_setCell_at {w : World} {g : Nat} {C : Array Value} {t : TypeId} {fr : Nat × Nat} (h : w.heap[g]? = some (.cells C t fr)) (j : Nat) (v : Value) : (w.setCell ⟨g, j, none⟩ v).heap[g]? = some (.cells (C.setIfInBounds j v) t fr) := by
  rw [setCell_eq_setRow w g j C t fr v h]
  exact setRow_heap w g C _ t _ h
theorem heap_setCells_other (g k : Nat) (hk : k ≠ g) : ∀ (vs : List Value) (o : Nat) (w : World), (w.setCells g o vs).heap[k]? = w.heap[k]?
  | [], _, _ => rfl
  | v :: r, o, w => by
    rw [World.setCells, heap_setCells_other g k hk r]
    exact Below.heap_setCell _ _ _ _ hk
theorem setCells_keeps (g : Nat) : ∀ (vs : List Value) (o : Nat) (w : World), (w.setCells g o vs).os = w.os ∧ (w.setCells g o vs).tape = w.tape ∧ (w.setCells g o vs).output = w.output ∧ (w.setCells g o vs).heap.size = w.heap.size
  | [], _, _ => ⟨rfl, rfl, rfl, rfl⟩
  | v :: r, o, w => by
    rw [World.setCells]
    obtain ⟨h1, h2, h3, h4⟩ := setCells_keeps g r (o + 1) (w.setCell ⟨g, o, none⟩ v)
    exact ⟨h1, h2, h3, by rw [h4]; simp [World.setCell]⟩
theorem heap_setCells_at (g : Nat) (t : TypeId) (fr : Nat × Nat) : ∀ (vs : List Value) (o : Nat) (w : World) (C : Array Value), w.heap[g]? = some (.cells C t fr) → o + vs.length ≤ C.size →
    ∃ C' : Array Value, (w.setCells g o vs).heap[g]? = some (.cells C' t fr) ∧ C'.toList = splice C.toList o vs ∧ C'.size = C.size
  | [], o, w, C, h, _ => ⟨C, h, by simp [splice], rfl⟩
  | v :: r, o, w, C, h, hl => by
    rw [World.setCells]
    simp only [List.length_cons] at hl
    obtain ⟨C', h1, h2, h3⟩ := heap_setCells_at g t fr r (o + 1) _ _ (heap_setCell_at h o v) (by simp; omega)
    refine ⟨C', h1, ?_, by rw [h3]; simp⟩
    rw [h2]
    unfold splice
    apply List.ext_getElem?
    intro i
    simp only [Array.toList_setIfInBounds, List.getElem?_append, List.length_take, List.length_set, Array.length_toList, List.getElem?_take, List.getElem?_drop, List.getElem?_set, List.length_cons]
    by_cases h1 : i < o
    · simp [h1, show i < o + 1 by omega, show o ≠ i by omega, show min (o + 1) C.size = o + 1 by omega, show min o C.size = o by omega]
    · by_cases h2 : i = o
      · subst h2
        simp [show min (i + 1) C.size = i + 1 by omega, show min i C.size = i by omega, show i < C.size by omega]
      · simp only [show ¬ i < o + 1 by omega, h1, show min (o + 1) C.size = o + 1 by omega, show min o C.size = o by omega, if_false]
        have e : i - o = (i - (o + 1)) + 1 := by omega
        rw [e, List.getElem?_cons_succ]
        by_cases h3 : i - (o + 1) < r.length
        · simp [h3, show i - (o + 1) + 1 < r.length + 1 by omega]
        · simp only [h3, show ¬ i - (o + 1) + 1 < r.length + 1 by omega, if_false]
          rw [if_neg (by omega), show o + 1 + r.length + (i - (o + 1) - r.length) = o + (r.length + 1) + (i - (o + 1) + 1 - (r.length + 1)) by omega]

/-- a row of the call's own: its cells -/
theorem own_range {w : World} {e : TypeId} {z g n cap : Nat} {xs : List Value} (h : w.ownsRow 0 e z (.slice (some ⟨g, 0, none⟩) n cap) n xs) (o : Nat) (cs : List Value) (hx : ∀ j v, cs[j]? = some v → xs[o + j]? = some v) : w.rangeAt g o cs := by
  rcases h.2 with ⟨hv, _⟩ | ⟨g', cap', cur, hv, _, hg, _, _, _, ht⟩
  · cases hv
  · injection hv with h1 h2 h3
    injection h1 with h1
    injection h1 with h1
    subst h1
    intro j v hj
    rw [cell_of_row w g (o + j) cur e (0, 0) hg]
    have := hx j v hj
    rw [← ht, List.getElem?_take] at this
    split at this
    · simpa using this
    · cases this
theorem own_block {w : World} {e : TypeId} {z g n cap : Nat} {xs : List Value} (h : w.ownsRow 0 e z (.slice (some ⟨g, 0, none⟩) n cap) n xs) : ∃ cur, w.heap[g]? = some (.cells cur e (0, 0)) ∧ n ≤ cap ∧ cap ≤ maxLen ∧ cur.size = cap * z ∧ cur.toList.take (n * z) = xs := by
  rcases h.2 with ⟨hv, _⟩ | ⟨g', cap', cur, hv, _, hg, h1, h2, h3, h4⟩
  · cases hv
  · injection hv with h5 h6 h7
    injection h5 with h5
    injection h5 with h5
    subst h5 h7
    exact ⟨cur, hg, h1, h2, h3, h4⟩
theorem own_there {w : World} {e : TypeId} {z g n cap : Nat} {xs : List Value} (h : w.ownsRow 0 e z (.slice (some ⟨g, 0, none⟩) n cap) n xs) (o m : Nat) (hm : o + m ≤ n * z) : w.there g o m := by
  obtain ⟨cur, hg, h1, h2, h3, h4⟩ := own_block h
  intro j hj
  have hle : n * z ≤ cap * z := Nat.mul_le_mul_right _ h1
  refine ⟨?_, ?_⟩
  · rw [cell_of_row w g (o + j) cur e (0, 0) hg]
    have : o + j < cur.size := by omega
    simp [this]
  · simp [World.frozen?, hg]
theorem own_keep {w w' : World} {e : TypeId} {z n : Nat} {v : Value} {xs : List Value} (h : w.ownsRow 0 e z v n xs) (hk : ∀ b, v.ownBlock = some b → w'.heap[b]? = w.heap[b]?) : w'.ownsRow 0 e z v n xs := by
  refine ⟨h.1, ?_⟩
  rcases h.2 with hn | ⟨g, cap, cur, rfl, hb, hg, r⟩
  · exact .inl hn
  · exact .inr ⟨g, cap, cur, rfl, hb, by rw [hk g rfl]; exact hg, r⟩
theorem own_setCells {w : World} {e : TypeId} {z g n cap : Nat} {xs : List Value} (h : w.ownsRow 0 e z (.slice (some ⟨g, 0, none⟩) n cap) n xs) (o : Nat) (vs : List Value) (hm : o + vs.length ≤ n * z) :
    (w.setCells g o vs).ownsRow 0 e z (.slice (some ⟨g, 0, none⟩) n cap) n (splice xs o vs) := by
  obtain ⟨cur, hg, h1, h2, h3, h4⟩ := own_block h
  have hle : n * z ≤ cap * z := Nat.mul_le_mul_right _ h1
  obtain ⟨C', k1, k2, k3⟩ := heap_setCells_at g e (0, 0) vs o w cur hg (by omega)
  have hxl := h.1
  refine ⟨by rw [length_splice _ _ _ (by omega)]; exact hxl, .inr ⟨g, cap, C', rfl, Nat.zero_le _, k1, h1, h2, by omega, ?_⟩⟩
  rw [k2, ← h4]
  have hcl : cur.toList.length = cap * z := by simpa using h3
  clear k1 k2 k3 h hg h1 h3
  generalize n * z = a at *
  generalize cap * z = b at *
  unfold splice
  apply List.ext_getElem?
  intro i
  by_cases h1 : i < o
  · rw [List.getElem?_take, if_pos (by omega), List.getElem?_append_left (by rw [List.length_take]; omega), List.getElem?_append_left (by rw [List.length_take, List.length_take]; omega), List.getElem?_take, List.getElem?_take, if_pos h1, if_pos h1, List.getElem?_take, if_pos (by omega)]
  · have e1 : (cur.toList.take o).length = o := by rw [List.length_take]; omega
    have e2 : ((cur.toList.take a).take o).length = o := by rw [List.length_take, List.length_take]; omega
    rw [List.getElem?_take, List.getElem?_append_right (l₁ := cur.toList.take o) (by omega), List.getElem?_append_right (l₁ := (cur.toList.take a).take o) (by omega), e1, e2]
    by_cases h2 : i - o < vs.length
    · rw [if_pos (by omega), List.getElem?_append_left h2, List.getElem?_append_left h2]
    · rw [List.getElem?_append_right (by omega), List.getElem?_append_right (by omega), List.getElem?_drop, List.getElem?_drop, List.getElem?_take, show o + vs.length + (i - o - vs.length) = i by omega]

structure Chg (S : Nat → Prop) (w w' : World) : Prop where
  os : w'.os = w.os
  tape : w'.tape = w.tape
  output : w'.output = w.output
  size : w.heap.size ≤ w'.heap.size
  block : ∀ b, b < w.heap.size → ¬ S b → w'.heap[b]? = w.heap[b]?
theorem Chg.refl (S : Nat → Prop) (w : World) : Chg S w w := ⟨rfl, rfl, rfl, Nat.le_refl _, fun _ _ _ => rfl⟩
theorem Chg.trans {S S1 : Nat → Prop} {a b c : World} (h : Chg S a b) (k : Chg S1 b c) (hs : ∀ x, x < a.heap.size → S1 x → S x) : Chg S a c :=
  ⟨k.os.trans h.os, k.tape.trans h.tape, k.output.trans h.output, Nat.le_trans h.size k.size, fun x hx hn => (k.block x (Nat.lt_of_lt_of_le hx h.size) (fun e => hn (hs x hx e))).trans (h.block x hx hn)⟩
theorem Chg.of_below {S : Nat → Prop} {w w' : World} (h : Below w.heap.size w w') : Chg S w w' := ⟨h.os, h.tape, h.output, h.size, fun b hb _ => h.block b hb⟩
theorem Chg.below {S : Nat → Prop} {w0 w w' : World} {B : Nat} (h : Below B w0 w) (k : Chg S w w') (hB : B ≤ w.heap.size) (hS : ∀ b, S b → B ≤ b) : Below B w0 w' :=
  h.trans ⟨k.os, k.tape, k.output, k.size, fun b hb => k.block b (by omega) (fun e => by have := hS b e; omega)⟩
theorem Chg.drew {S : Nat → Prop} {a w : World} (h : Chg S a w) : Chg S a w.drew := ⟨h.os, h.tape, h.output, h.size, h.block⟩
theorem Chg.setCell {S : Nat → Prop} {a w : World} (h : Chg S a w) {p : Addr} (hp : S p.block ∨ a.heap.size ≤ p.block) (u : Value) : Chg S a (w.setCell p u) :=
  ⟨h.os, h.tape, h.output, by simpa [World.setCell] using h.size, fun b hb hn => by
    rw [Below.heap_setCell _ _ _ _ (fun e => by subst e; rcases hp with hp | hp; exact hn hp; omega)]
    exact h.block b hb hn⟩
theorem Chg.setCells {S : Nat → Prop} {a w : World} (h : Chg S a w) {g : Nat} (hp : S g ∨ a.heap.size ≤ g) (o : Nat) (vs : List Value) : Chg S a (w.setCells g o vs) := by
  obtain ⟨h1, h2, h3, h4⟩ := setCells_keeps g vs o w
  exact ⟨h1.trans h.os, h2.trans h.tape, h3.trans h.output, by rw [h4]; exact h.size, fun b hb hn => by
    rw [heap_setCells_other g b (fun e => by subst e; rcases hp with hp | hp; exact hn hp; omega)]
    exact h.block b hb hn⟩
theorem Chg.alloc {S : Nat → Prop} {a w : World} (h : Chg S a w) (o : Obj) : Chg S a (w.alloc o) :=
  ⟨h.os, h.tape, h.output, by have := h.size; simp; omega, fun b hb hn => by
    rw [Below.heap_alloc _ _ _ (by have := h.size; omega)]
    exact h.block b hb hn⟩
theorem Chg.grown {S : Nat → Prop} {a w w' : World} {row : Option Nat} (h : Chg S a w) (k : w.grownBy w' row) (hr : ∀ b, row = some b → S b ∨ a.heap.size ≤ b) : Chg S a w' :=
  ⟨k.os.trans h.os, k.tape.trans h.tape, k.output.trans h.output, Nat.le_trans h.size k.size, fun b hb hn => by
    rw [k.block b (by have := h.size; omega) (fun e => by rcases hr b e.symm with h1 | h1; exact hn h1; omega)]
    exact h.block b hb hn⟩
theorem Chg.mono {S S1 : Nat → Prop} {w w' : World} (h : Chg S w w') (hs : ∀ x, S x → S1 x) : Chg S1 w w' := ⟨h.os, h.tape, h.output, h.size, fun b hb hn => h.block b hb (fun e => hn (hs b e))⟩

/-- a new variable: the world behind it is a letter -/
theorem wpList_alloc_new {P : Program} {w : World} {ops : Array Oper} {rest : List Oper} {o : Oper} {a : Act} {Q : Exit → Act → World → Prop} (hgd : o.guard = none) (t : TypeId) (ho : o.op = .alloc t) (cs : Array Value)
    (hz : ∀ w, (zeroValue t).run P w = .ok (.agg cs) w) (h : ∀ W, Hid (W = w.alloc (.cells cs t)) → wpList P ops Q rest (a.put o.dst (.pointer (some ⟨w.heap.size, 0, none⟩))) W) : wpList P ops Q (o :: rest) a w := by
  refine wpList_plain hgd fun K hK => ?_
  unfold Oper.wp
  simp [execOp, ho, Instr.alloc, newVar, newRow, hz, Value.cells, Result.andThen]
  exact hK _ _ (h _ rfl)
/-- a new variable is filled at once -/
theorem new_filled {w W : World} {cs : Array Value} {t : TypeId} (hW : W = w.alloc (.cells cs t)) : W.heap[w.heap.size]? = some (.cells cs t (0, 0)) ∧ Below w.heap.size w W := by
  subst hW
  exact ⟨heap_alloc_new w _, (Below.refl _ _).alloc (Nat.le_refl _) _⟩


/-- 'copy' of single cells, nil or not: the world behind it written by its cells -/
theorem wpList_copy_cells {P : Program} {w : World} {ops : Array Oper} {rest : List Oper} {o : Oper} {a : Act} {Q : Exit → Act → World → Prop} (hgd : o.guard = none) (d s : Operand) (dT sT : TypeId)
    (ho : o.op = .call { callee := .builtin .copy, args := #[d, s], argTypes := #[dT, sT] }) (elem : TypeId) (hu : P.underlying dT = some (.slice elem)) (hsz : (P.info? elem).map (·.size) = some 1)
    (dp sp : Option Addr) (dLen dCap sLen sCap : Nat) (hd : a.eval d = .slice dp dLen dCap) (hs : a.eval s = .slice sp sLen sCap)
    (b of : Nat) (cs : List Value) (hn : cs.length = Nat.min sLen dLen)
    (hpos : 0 < cs.length → dp = some ⟨b, of, none⟩ ∧ ∃ ad, sp = some ad ∧ ∀ j v, cs[j]? = some v → w.cell? (ad.add j) = some v)
    (ht : w.there b of cs.length) (h1 : ∀ v ∈ cs, v.oneCell' = true) (h : wpList P ops Q rest (a.put o.dst (goInt cs.length)) (w.setCells b of cs)) : wpList P ops Q (o :: rest) a w := by
  by_cases h0 : cs.length = 0
  · obtain rfl : cs = [] := List.eq_nil_of_length_eq_zero h0
    exact wpList_copy_nothing hgd d s dT sT ho elem hu hsz dp sp dLen dCap sLen sCap hd hs (by simpa using hn.symm) h
  · obtain ⟨rfl, ad, rfl, hsrc⟩ := hpos (by omega)
    refine wpList_plain hgd fun K hK => ?_
    have hrun := run_copy_cells (P := P) w dT sT o.type elem b of dLen dCap ad sLen sCap cs hu hsz hn hsrc (fun j hj => (ht j hj).1) (fun j hj => (ht j hj).2) h1
    unfold Oper.wp
    simp [execOp, ho, resolve, invoke, builtin, hd, hs, hrun, Result.andThen]
    exact hK _ _ h


theorem wpList_build_one {P : Program} {w : World} {ops : Array Oper} {rest : List Oper} {o : Oper} {a : Act} {Q : Exit → Act → World → Prop} (hg : o.guard = none) (t : TypeId) (k : Nat) (x : Operand) (ho : o.op = .build t #[(k, x)]) (v : Value) (hx : a.eval x = v) (cs : Array Value)
    (hb : P.built t [(k, v)] = some cs) (h : wpList P ops Q rest (a.put o.dst (.agg cs)) w) : wpList P ops Q (o :: rest) a w := by
  subst hx
  have hb' : P.built t ((#[(k, x)] : Array (Nat × Operand)).map fun (i, x) => (i, a.eval x)).toList = some cs := by simpa using hb
  refine wpList_build hg t _ ho (by rw [hb']; rfl) ?_
  rw [hb']
  exact h
theorem fill_facts {w W : World} {cs cs' : Array Value} {t : TypeId} (hb : Below w.heap.size w W) (hr : W.heap[w.heap.size]? = some (.cells cs t (0, 0))) : (W.setRow w.heap.size cs').heap[w.heap.size]? = some (.cells cs' t (0, 0)) ∧ Below w.heap.size w (W.setRow w.heap.size cs') :=
  ⟨setRow_heap W _ _ _ _ _ hr, below_setRow hb (Nat.le_refl _) _⟩
theorem fill_more {w U : World} {cs : List Value} {t : TypeId} (hb : Below w.heap.size w U) (hr : U.heap[w.heap.size]? = some (.cells cs.toArray t (0, 0))) (o : Nat) (vs : List Value) (ho : o + vs.length ≤ cs.length) :
    (U.setCells w.heap.size o vs).heap[w.heap.size]? = some (.cells (splice cs o vs).toArray t (0, 0)) ∧ Below w.heap.size w (U.setCells w.heap.size o vs) ∧ U.there w.heap.size o vs.length := by
  obtain ⟨C', h1, h2, _⟩ := heap_setCells_at w.heap.size t (0, 0) vs o U _ hr (by simpa using ho)
  obtain ⟨k1, k2, k3, k4⟩ := setCells_keeps w.heap.size vs o U
  refine ⟨?_, ⟨k1.trans hb.os, k2.trans hb.tape, k3.trans hb.output, by rw [k4]; exact hb.size, fun b hlt => ?_⟩, fun j hj => ⟨?_, ?_⟩⟩
  · rw [h1]
    congr 2
    rw [← h2]
  · rw [heap_setCells_other _ _ (by omega)]
    exact hb.block b hlt
  · rw [cell_of_row U _ (o + j) _ t (0, 0) hr]
    have : o + j < cs.length := by omega
    simp [this]
  · simp [World.frozen?, hr]

end Go.Proofs.YtnmailhlncchmaaDoor
