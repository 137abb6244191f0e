/-
  What is proved: lists of variables in memory: what a slice of them reads as (HR), rows of the call's own, appending, the element's cells; and contracts of order and Clone. Conditions: those in each statement.
-/
import Derived.Test.YtnmailhlncchmaaDoorXs
namespace Go.Proofs.YtnmailhlncchmaaDoor
open Go.RowKit

/-- a variable -/
structure Vr where
  nm : ByteArray
  v : Val
def encR (x : Vr) : List Value := [.string x.nm, .int .i64 x.v.k, .int .i64 x.v.n, .string x.v.s]
def rwV (l : List Vr) : List Value := (l.map encR).flatten
theorem rwV_nil : rwV [] = [] := rfl
theorem rwV_cons (x : Vr) (l : List Vr) : rwV (x :: l) = encR x ++ rwV l := rfl
theorem rwV_append (a b : List Vr) : rwV (a ++ b) = rwV a ++ rwV b := by unfold rwV; rw [List.map_append, List.flatten_append]
theorem rwV_length (l : List Vr) : (rwV l).length = l.length * 4 := by
  induction l with
  | nil => rfl
  | cons x l ih => rw [rwV_cons, List.length_append, ih, List.length_cons]; show 4 + _ = _; omega
theorem rwV_one (l : List Vr) : ∀ v ∈ rwV l, v.oneCell' = true := fun v hv => by
  obtain ⟨x, hx, hv⟩ := List.mem_flatten.1 hv
  obtain ⟨c, _, rfl⟩ := List.mem_map.1 hx
  simp only [encR, List.mem_cons, List.not_mem_nil, or_false] at hv
  rcases hv with rfl | rfl | rfl | rfl <;> rfl
theorem rwV_get (l : List Vr) (i : Nat) (hi : i < l.length) (j : Nat) (hj : j < 4) : (rwV l)[i * 4 + j]? = (encR l[i])[j]? := by
  induction l generalizing i with
  | nil => simp at hi
  | cons x l ih =>
    rw [rwV_cons]
    cases i with
    | zero =>
      rw [List.getElem?_append_left (by show 0 * 4 + j < 4; omega), Nat.zero_mul, Nat.zero_add]; rfl
    | succ i =>
      rw [List.getElem?_append_right (by show 4 ≤ _; omega), show (i + 1) * 4 + j - (encR x).length = i * 4 + j by show (i + 1) * 4 + j - 4 = _; omega]
      exact ih i (by simpa using hi)
theorem rwV_take (l : List Vr) (i : Nat) : (rwV l).take (i * 4) = rwV (l.take i) := by
  induction l generalizing i with
  | nil => simp [rwV]
  | cons x l ih =>
    cases i with
    | zero => simp [rwV]
    | succ i =>
      rw [rwV_cons, List.take_succ_cons, rwV_cons, ← ih i, List.take_append, List.take_of_length_le (by show 4 ≤ _; omega)]
      rw [show (i + 1) * 4 - (encR x).length = i * 4 by show (i + 1) * 4 - 4 = _; omega]
theorem rwV_drop (l : List Vr) (i : Nat) : (rwV l).drop (i * 4) = rwV (l.drop i) := by
  induction l generalizing i with
  | nil => simp [rwV]
  | cons x l ih =>
    cases i with
    | zero => simp [rwV]
    | succ i =>
      rw [rwV_cons, List.drop_succ_cons, ← ih i, List.drop_append, List.drop_of_length_le (by show 4 ≤ _; omega), List.nil_append]
      rw [show (i + 1) * 4 - (encR x).length = i * 4 by show (i + 1) * 4 - 4 = _; omega]
/-- the slice value .slice A n c reads as the variables l -/
def HR (w : World) (A : Option Addr) (n c : Nat) (l : List Vr) : Prop :=
  l.length = n ∧ n ≤ c ∧ (0 < n → ∃ b o, A = some ⟨b, o, none⟩ ∧ b < w.heap.size ∧ ∀ j u, (rwV l)[j]? = some u → w.cell? ⟨b, o + j, none⟩ = some u) ∧ (A = none ∨ ∃ b o, A = some ⟨b, o, none⟩)
theorem HR.nil (w : World) : HR w none 0 0 [] := ⟨rfl, Nat.le_refl _, fun h => absurd h (Nat.lt_irrefl _), .inl rfl⟩
theorem HR.below {w w' : World} {A : Option Addr} {n c : Nat} {l : List Vr} (h : HR w A n c l) (hb : Below w.heap.size w w') : HR w' A n c l :=
  ⟨h.1, h.2.1, fun hn => by
    obtain ⟨b, o, hA, hlt, hH⟩ := h.2.2.1 hn
    exact ⟨b, o, hA, Nat.lt_of_lt_of_le hlt hb.size, fun j u hj => (hb.cell (p := ⟨b, o + j, none⟩) hlt).trans (hH j u hj)⟩, h.2.2.2⟩

/-- an element's cells -/
theorem HR.elem {w : World} {A : Option Addr} {n c : Nat} {l : List Vr} (h : HR w A n c l) (i : Nat) (hi : i < l.length) : ∃ b o, A = some ⟨b, o, none⟩ ∧ b < w.heap.size ∧
    w.cell? ⟨b, o + i * 4, none⟩ = some (.string l[i].nm) ∧ w.cell? ⟨b, o + i * 4 + 1, none⟩ = some (.int .i64 l[i].v.k) ∧ w.cell? ⟨b, o + i * 4 + 2, none⟩ = some (.int .i64 l[i].v.n) ∧ w.cell? ⟨b, o + i * 4 + 3, none⟩ = some (.string l[i].v.s) := by
  obtain ⟨b, o, hA, hlt, hH⟩ := h.2.2.1 (by rw [← h.1]; omega)
  refine ⟨b, o, hA, hlt, ?_, ?_, ?_, ?_⟩
  · exact hH (i * 4) _ ((rwV_get l i hi 0 (by omega)).trans rfl)
  · exact (congrArg (fun k => w.cell? ⟨b, k, none⟩) (Nat.add_assoc o (i * 4) 1)).trans (hH (i * 4 + 1) _ ((rwV_get l i hi 1 (by omega)).trans rfl))
  · exact (congrArg (fun k => w.cell? ⟨b, k, none⟩) (Nat.add_assoc o (i * 4) 2)).trans (hH (i * 4 + 2) _ ((rwV_get l i hi 2 (by omega)).trans rfl))
  · exact (congrArg (fun k => w.cell? ⟨b, k, none⟩) (Nat.add_assoc o (i * 4) 3)).trans (hH (i * 4 + 3) _ ((rwV_get l i hi 3 (by omega)).trans rfl))
theorem info42 : (Tryd.prog.info? 42).map (fun i => (i.zero, i.size, i.bytes)) = some (some (.agg #[.string ⟨#[]⟩, .int .i64 0, .int .i64 0, .string ⟨#[]⟩]), 4, 48) := by kernel_rfl
theorem info42' : ∃ i0, Tryd.prog.info? 42 = some i0 ∧ i0.zero = some (.agg #[.string ⟨#[]⟩, .int .i64 0, .int .i64 0, .string ⟨#[]⟩]) ∧ i0.size = 4 ∧ i0.bytes = 48 := by
  have h := info42
  cases hi : Tryd.prog.info? 42 with
  | none => rw [hi] at h; cases h
  | some i0 =>
    rw [hi] at h
    simp only [Option.map_some, Option.some.injEq, Prod.mk.injEq] at h
    exact ⟨i0, rfl, h.1, h.2.1, h.2.2⟩
/-- a row of variables of the call's own -/
def OwR (w : World) (B : Nat) (A : Option Addr) (n c : Nat) (l : List Vr) : Prop := w.ownsRow B 42 4 (.slice A n c) n (rwV l)
theorem OwR.hr {w : World} {B n c : Nat} {A : Option Addr} {l : List Vr} (h : OwR w B A n c l) : HR w A n c l ∧ (A = none → c = 0) := by
  have hl : l.length = n := by have := h.1; rw [rwV_length] at this; omega
  rcases h.2 with ⟨hv, h0⟩ | ⟨g, cap, cur, hv, hb, hg, hnc, hm, hs, ht⟩
  · injection hv with h1 h2 h3
    subst h1 h2 h3
    exact ⟨⟨hl, Nat.le_refl _, fun h => absurd h (by omega), .inl rfl⟩, fun _ => rfl⟩
  · injection hv with h1 h2 h3
    subst h1 h3
    refine ⟨⟨hl, hnc, fun _ => ⟨g, 0, rfl, (Array.getElem?_eq_some_iff.1 hg).1, fun j u hj => ?_⟩, .inr ⟨g, 0, rfl⟩⟩, fun e => by cases e⟩
    have hj' : j < (rwV l).length := (List.getElem?_eq_some_iff.1 hj).1
    rw [Nat.zero_add]
    have := h.cellAt j (by rw [rwV_length] at hj'; omega)
    rw [this]
    exact hj
theorem own_formG {w : World} {base : Nat} {v : Value} {n : Nat} {xs : List Value} {t : TypeId} {z : Nat} (h : w.ownsRow base t z v n xs) : ∃ A c, v = .slice A n c ∧ (A = none ∨ ∃ b o, A = some ⟨b, o, none⟩) := by
  rcases h.2 with ⟨rfl, rfl⟩ | ⟨g, cap, cur, rfl, _⟩
  · exact ⟨_, _, rfl, .inl rfl⟩
  · exact ⟨_, _, rfl, .inr ⟨g, 0, rfl⟩⟩
theorem OwR.nil (w : World) (B : Nat) : OwR w B none 0 0 [] := World.ownsRow_nil _ _ _ _
theorem OwR.below {w w' : World} {B n c : Nat} {A : Option Addr} {l : List Vr} (h : OwR w B A n c l) (hb : Below w.heap.size w w') : OwR w' B A n c l :=
  World.ownsRow.kept h (row := none) ⟨hb.os, hb.tape, hb.output, hb.size, fun k hk _ => hb.block k hk⟩ (by cases hv : (Value.slice A n c).ownBlock <;> simp)
/-- 'append(out, xs...)' onto a row of the call's own, xs nil or not -/
theorem wpList_append_vr {w : World} {ops : Array Oper} {rest : List Oper} {o : Oper} {a : Act} {Q : Exit → Act → World → Prop} (hgd : o.guard = none) (s x : Operand)
    (ho : o.op = .call { callee := .builtin .append, args := #[s, x], argTypes := #[33, 33] })
    (base : Nat) (v : Value) (n : Nat) (l : List Vr) (hs : a.eval s = v) (hown : w.ownsRow base 42 4 v n (rwV l))
    (A : Option Addr) (m c : Nat) (l2 : List Vr) (hx : a.eval x = .slice A m c) (hh : HR w A m c l2) (hc0 : A = none → c = 0) (hbytes : (n + m) * 48 ≤ 140737488355328) (hbase : base ≤ w.heap.size)
    (h : ∀ A' c' w', OwR w' base A' (n + m) c' (l ++ l2) → w.grownBy w' v.ownBlock → wpList Tryd.prog ops Q rest (a.put o.dst (.slice A' (n + m) c')) w') : wpList Tryd.prog ops Q (o :: rest) a w := by
  obtain ⟨i0, hi, hz0, hz1, hz2⟩ := info42'
  rcases hh.2.2.2 with rfl | ⟨b, of, rfl⟩
  · obtain rfl : c = 0 := hc0 rfl
    obtain rfl : m = 0 := by have := hh.2.1; omega
    obtain rfl : l2 = [] := List.length_eq_zero_iff.1 hh.1
    obtain ⟨A', c', rfl, _⟩ := own_formG hown
    refine wpList_append_own_none hgd s x 33 ho base 42 i0 4 Tryd.underlying33 hi _ n (rwV l) hs hown hx ?_
    have h2 := h A' c' w (by simpa [OwR] using hown) (World.grownBy.refl _ _)
    simpa using h2
  · refine wpList_append_own w hgd s x 33 ho base 42 i0 _ 4 48 Tryd.underlying33 hi hz0 hz1 hz2 rfl (by decide) v n (rwV l) hs hown ⟨b, of, none⟩ m c (rwV l2) hx (by rw [rwV_length, hh.1]) (fun j u hu => ?_) (rwV_one l2) (by unfold maxLen; omega) (by omega) hbase ?_
    · rcases Nat.eq_zero_or_pos m with h0 | h0
      · subst h0
        obtain rfl : l2 = [] := List.length_eq_zero_iff.1 hh.1
        simp [rwV] at hu
      · obtain ⟨b', o', he, _, hH⟩ := hh.2.2.1 h0
        cases he
        rw [Addr.add_lit]
        exact hH j u hu
    · intro v' w' hown' hgrow _
      obtain ⟨A', c', rfl, _⟩ := own_formG hown'
      exact h A' c' w' (by unfold OwR; rw [rwV_append]; exact hown') hgrow
/-- a new row of variables -/
theorem HR.new (w : World) (l : List Vr) (C : Array Value) (hC : C = (rwV l).toArray) (t : TypeId) (g n : Nat) (hg : g = w.heap.size) (hn : n = l.length) : HR (w.alloc (.cells C t)) (some ⟨g, 0, none⟩) n n l := by
  subst hg hn hC
  refine ⟨rfl, Nat.le_refl _, fun _ => ⟨w.heap.size, 0, rfl, by simp, fun j u hu => ?_⟩, .inr ⟨_, _, rfl⟩⟩
  rw [Nat.zero_add]
  exact box_cell (Below.refl _ _) j (by simpa using hu)
theorem OwR.new (w : World) (l : List Vr) (C : Array Value) (hC : C = (rwV l).toArray) (g n : Nat) (hg : g = w.heap.size) (hn : n = l.length) (hl : n ≤ 1048576) (B : Nat) (hB : B ≤ w.heap.size) : OwR (w.alloc (.cells C 42)) B (some ⟨g, 0, none⟩) n n l := by
  subst hg hn hC
  refine ⟨by rw [rwV_length], .inr ⟨w.heap.size, l.length, (rwV l).toArray, rfl, hB, heap_at _ _ _ rfl, Nat.le_refl _, by unfold maxLen; omega, by simp [rwV_length], ?_⟩⟩
  rw [List.take_of_length_le (by simp [rwV_length])]
end Go.Proofs.YtnmailhlncchmaaDoor
