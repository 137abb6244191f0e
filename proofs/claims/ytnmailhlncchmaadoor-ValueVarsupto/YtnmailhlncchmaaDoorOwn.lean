/-
  What is proved: facts on rows of bytes of the call's own, on boxes, on rows of parts, that the walks of this seat use. No condition but those in each statement.
-/
import Derived.Test.YtnmailhlncchmaaDoorRows
import Derived.Test.YtnmailhlncchmaaDoorBase
import Derived.Laws.AppendOwnNone
import Derived.Deep.AppendLies
import Derived.Lib.SlBytesConst
import Derived.Laws.BitsAllLaws
import Derived.IntWalk
import Derived.StillTailTactics
namespace Go.Proofs.YtnmailhlncchmaaDoor
open Go.RowKit

theorem Tryd.info5 : (Tryd.prog.info? 5).map (fun i => (i.zero, i.size, i.bytes)) = some (some (.int .u8 0), 1, 1) := by kernel_rfl
theorem own_form {w : World} {base : Nat} {v : Value} {n : Nat} {xs : List Value} (h : w.ownsRow base 5 1 v n xs) : ∃ A c, v = .slice A n c := by
  rcases h.2 with ⟨rfl, rfl⟩ | ⟨g, cap, cur, rfl, _⟩
  · exact ⟨_, _, rfl⟩
  · exact ⟨_, _, rfl⟩
/-- 'append(out, xs...)' of bytes, onto a row of the call's own, xs nil or not. -/
theorem wpList_append_hold {w : World} {ops : Array Oper} {rest : List Oper} {o : Oper} {a : Act} {Q : Exit → Act → World → Prop} (hgd : o.guard = none) (s x : Operand)
    (ho : o.op = .call { callee := .builtin .append, args := #[s, x], argTypes := #[50, 50] })
    (base : Nat) (v : Value) (n : Nat) (l : List UInt8) (hs : a.eval s = v) (hown : w.ownsRow base 5 1 v n (bv l))
    (A : Option Addr) (m c : Nat) (l2 : List UInt8) (hx : a.eval x = .slice A m c) (hh : Hold w A m c l2) (hbytes : n + m ≤ 140737488355328) (hbase : base ≤ w.heap.size)
    (h : ∀ A' c' w', w'.ownsRow base 5 1 (.slice A' (n + m) c') (n + m) (bv (l ++ l2)) → w.grownBy w' v.ownBlock → wpList Tryd.prog ops Q rest (a.put o.dst (.slice A' (n + m) c')) w') : wpList Tryd.prog ops Q (o :: rest) a w := by
  obtain ⟨i0, hi, hz0, hz1, hz2⟩ := info_parts Tryd.info5
  cases A with
  | none =>
    obtain ⟨rfl, rfl⟩ := hh.none_ rfl
    have hl : l2 = [] := List.eq_nil_of_length_eq_zero hh.1
    subst hl
    obtain ⟨A', c', rfl⟩ := own_form hown
    refine wpList_append_own_none hgd s x 50 ho base 5 i0 1 Tryd.underlying50 hi _ n (bv l) hs hown hx ?_
    simpa using h A' c' w (by simpa using hown) (World.grownBy.refl _ _)
  | some ad =>
    refine wpList_append_own w hgd s x 50 ho base 5 i0 (.int .u8 0) 1 1 Tryd.underlying50 hi hz0 hz1 hz2 rfl (by decide) v n (bv l) hs hown ad m c (bv l2) hx (by rw [bv_length, hh.1]; omega) (hh.cells ad rfl) (bv_one l2) (by unfold maxLen; omega) (by omega) hbase ?_
    intro v' w' hown' hgrow _
    obtain ⟨A', c', rfl⟩ := own_form hown'
    exact h A' c' w' (by rw [bv_append]; exact hown') hgrow

theorem box_cell {w w1 : World} {cs : Array Value} {t : TypeId} (b1 : Below (w.alloc (.cells cs t)).heap.size (w.alloc (.cells cs t)) w1) (j : Nat) {u : Value} (hj : cs[j]? = some u) : w1.cell? ⟨w.heap.size, j, none⟩ = some u :=
  cell_later b1 (by rw [cell_of_row _ w.heap.size j cs t (0, 0) (heap_alloc_new w _)]; exact hj)
theorem box_below {w w1 : World} {o : Obj} (b1 : Below (w.alloc o).heap.size (w.alloc o) w1) : Below w.heap.size w w1 :=
  ((Below.refl _ _).alloc (Nat.le_refl _) _).trans (b1.mono (by simp))

theorem bv_set (l : List UInt8) (j : Nat) (b : UInt8) : (bv l).set j (.int .u8 (b.toNat : Int)) = bv (l.set j b) := by
  simp [bv, List.map_set]
theorem grown_trans {w1 w2 w3 : World} {q : Option Nat} (h : w1.grownBy w2 q) (k : w2.grownBy w3 q) : w1.grownBy w3 q :=
  ⟨k.os.trans h.os, k.tape.trans h.tape, k.output.trans h.output, Nat.le_trans h.size k.size, fun b hb hne => (k.block b (Nat.lt_of_lt_of_le hb h.size) hne).trans (h.block b hb hne)⟩
theorem grown_drew {w1 w2 : World} {q : Option Nat} (h : w1.grownBy w2 q) : w1.grownBy w2.drew q := ⟨h.os, h.tape, h.output, h.size, h.block⟩

theorem heap_at (w : World) (o : Obj) (k : Nat) (hk : k = w.heap.size) : (w.alloc o).heap[k]? = some o := by
  subst hk
  exact heap_alloc_new w o
theorem Hold.new (w : World) (m : List UInt8) (t : TypeId) (fr : Nat × Nat) (k : Nat) (hk : k = w.heap.size) : Hold (w.alloc (.cells (bv m).toArray t fr)) (some ⟨k, 0, none⟩) m.length m.length m := by
  subst hk
  refine ⟨rfl, Nat.le_refl _, (fun e => by cases e), fun _ => ⟨w.heap.size, 0, rfl, fun j hj => ?_⟩⟩
  rw [cell_of_row _ w.heap.size (0 + j) (bv m).toArray t fr (heap_alloc_new w _)]
  have := (bv_get m j (.int .u8 (m[j].toNat : Int))).2 ⟨hj, rfl⟩
  simpa using this

/-- The slice of slices '.slice B N C' reads as these parts. -/
def Parts (w : World) (B : Option Addr) (N : Nat) (ps : List Part) : Prop :=
  ps.length = N ∧ (∀ p ∈ ps, Hold w p.1 p.2.1 p.2.2.1 p.2.2.2) ∧ (∀ p ∈ ps, p.2.1 ≤ 140737488355328) ∧ (0 < N → ∃ b off, B = some ⟨b, off, none⟩ ∧ ∀ j (hj : j < ps.length), w.cell? ⟨b, off + j, none⟩ = some ps[j].val)
theorem Parts.below {w w' : World} {B : Option Addr} {N : Nat} {ps : List Part} (h : Parts w B N ps) (hb : Below w.heap.size w w') : Parts w' B N ps := by
  refine ⟨h.1, fun p hp => (h.2.1 p hp).below hb, h.2.2.1, fun hN => ?_⟩
  obtain ⟨b, off, e, hc⟩ := h.2.2.2 hN
  exact ⟨b, off, e, fun j hj => cell_later hb (hc j hj)⟩
theorem Parts.at {w : World} {B : Option Addr} {N : Nat} {ps : List Part} (h : Parts w B N ps) {k : Nat} (hk : k < N) : ∃ b off, ∃ hl : k < ps.length, B = some ⟨b, off, none⟩ ∧ w.cell? ⟨b, off + k, none⟩ = some ps[k].val ∧ Hold w ps[k].1 ps[k].2.1 ps[k].2.2.1 ps[k].2.2.2 ∧ ps[k].2.1 ≤ 140737488355328 := by
  obtain ⟨b, off, e, hc⟩ := h.2.2.2 (by omega)
  have hl : k < ps.length := by rw [h.1]; exact hk
  exact ⟨b, off, hl, e, hc k hl, h.2.1 _ (List.getElem_mem hl), h.2.2.1 _ (List.getElem_mem hl)⟩

theorem Parts.none_ (w : World) : Parts w none 0 [] := ⟨rfl, by simp, by simp, fun h => absurd h (by omega)⟩
/-- a row of one part that is built in w -/
theorem Parts.one {w : World} {A : Option Addr} {n c : Nat} {l : List UInt8} (h : Hold w A n c l) (hn : n ≤ 140737488355328) (k : Nat) (hk : k = w.heap.size) :
    Parts (w.alloc (.cells #[.slice A n c] 50)) (some ⟨k, 0, none⟩) 1 [(A, n, c, l)] := by
  have hb : Below w.heap.size w (w.alloc (.cells #[.slice A n c] 50)) := (Below.refl _ _).alloc (Nat.le_refl _) _
  refine ⟨rfl, ?_, ?_, fun _ => ⟨k, 0, rfl, fun j hj => ?_⟩⟩
  · intro p hp
    simp at hp
    subst hp
    exact h.below hb
  · intro p hp
    simp at hp
    subst hp
    exact hn
  · rw [cell_of_row _ k (0 + j) _ 50 (0, 0) (heap_at w _ k hk)]
    match j, hj with
    | 0, _ => rfl
theorem Parts.two {w : World} {A A2 : Option Addr} {n c n2 c2 : Nat} {l l2 : List UInt8} (h : Hold w A n c l) (h2 : Hold w A2 n2 c2 l2) (hn : n ≤ 140737488355328) (hn2 : n2 ≤ 140737488355328) (k : Nat) (hk : k = w.heap.size) :
    Parts (w.alloc (.cells #[.slice A n c, .slice A2 n2 c2] 50)) (some ⟨k, 0, none⟩) 2 [(A, n, c, l), (A2, n2, c2, l2)] := by
  have hb : Below w.heap.size w (w.alloc (.cells #[.slice A n c, .slice A2 n2 c2] 50)) := (Below.refl _ _).alloc (Nat.le_refl _) _
  refine ⟨rfl, ?_, ?_, fun _ => ⟨k, 0, rfl, fun j hj => ?_⟩⟩
  · intro p hp
    simp at hp
    rcases hp with rfl | rfl
    · exact h.below hb
    · exact h2.below hb
  · intro p hp
    simp at hp
    rcases hp with rfl | rfl
    · exact hn
    · exact hn2
  · rw [cell_of_row _ k (0 + j) _ 50 (0, 0) (heap_at w _ k hk)]
    match j, hj with
    | 0, _ => rfl
    | 1, _ => rfl
theorem Parts.three {w : World} {A A2 A3 : Option Addr} {n c n2 c2 n3 c3 : Nat} {l l2 l3 : List UInt8} (h : Hold w A n c l) (h2 : Hold w A2 n2 c2 l2) (h3 : Hold w A3 n3 c3 l3) (hn : n ≤ 140737488355328) (hn2 : n2 ≤ 140737488355328) (hn3 : n3 ≤ 140737488355328) (k : Nat) (hk : k = w.heap.size) :
    Parts (w.alloc (.cells #[.slice A n c, .slice A2 n2 c2, .slice A3 n3 c3] 50)) (some ⟨k, 0, none⟩) 3 [(A, n, c, l), (A2, n2, c2, l2), (A3, n3, c3, l3)] := by
  have hb : Below w.heap.size w (w.alloc (.cells #[.slice A n c, .slice A2 n2 c2, .slice A3 n3 c3] 50)) := (Below.refl _ _).alloc (Nat.le_refl _) _
  refine ⟨rfl, ?_, ?_, fun _ => ⟨k, 0, rfl, fun j hj => ?_⟩⟩
  · intro p hp
    simp at hp
    rcases hp with rfl | rfl | rfl
    · exact h.below hb
    · exact h2.below hb
    · exact h3.below hb
  · intro p hp
    simp at hp
    rcases hp with rfl | rfl | rfl
    · exact hn
    · exact hn2
    · exact hn3
  · rw [cell_of_row _ k (0 + j) _ 50 (0, 0) (heap_at w _ k hk)]
    match j, hj with
    | 0, _ => rfl
    | 1, _ => rfl
    | 2, _ => rfl

/-- The slice of slices '.slice B N C' reads as these parts; of their lengths nothing is said. -/
def Rows0 (w : World) (B : Option Addr) (N : Nat) (ps : List Part) : Prop :=
  ps.length = N ∧ (∀ p ∈ ps, Hold w p.1 p.2.1 p.2.2.1 p.2.2.2) ∧ (0 < N → ∃ b off, B = some ⟨b, off, none⟩ ∧ ∀ j (hj : j < ps.length), w.cell? ⟨b, off + j, none⟩ = some ps[j].val)
theorem Rows0.below {w w' : World} {B : Option Addr} {N : Nat} {ps : List Part} (h : Rows0 w B N ps) (hb : Below w.heap.size w w') : Rows0 w' B N ps := by
  refine ⟨h.1, fun p hp => (h.2.1 p hp).below hb, fun hN => ?_⟩
  obtain ⟨b, off, e, hc⟩ := h.2.2 hN
  exact ⟨b, off, e, fun j hj => cell_later hb (hc j hj)⟩
theorem Rows0.at {w : World} {B : Option Addr} {N : Nat} {ps : List Part} (h : Rows0 w B N ps) {k : Nat} (hk : k < N) : ∃ b off, ∃ hl : k < ps.length, B = some ⟨b, off, none⟩ ∧ w.cell? ⟨b, off + k, none⟩ = some ps[k].val ∧ Hold w ps[k].1 ps[k].2.1 ps[k].2.2.1 ps[k].2.2.2 := by
  obtain ⟨b, off, e, hc⟩ := h.2.2 (by omega)
  have hl : k < ps.length := by rw [h.1]; exact hk
  exact ⟨b, off, hl, e, hc k hl, h.2.1 _ (List.getElem_mem hl)⟩
theorem Rows0.parts {w : World} {B : Option Addr} {N : Nat} {ps : List Part} (h : Rows0 w B N ps) (hs : ∀ p ∈ ps, p.2.1 ≤ 1048576) : Parts w B N ps :=
  ⟨h.1, h.2.1, fun p hp => Nat.le_trans (hs p hp) (by omega), h.2.2⟩
theorem no_dst {ops : Array Oper} {t : Tmp} (h : (ops.toList.all fun o => o.dst != some t) = true) : ∀ (i : Nat) (o : Oper), ops[i]? = some o → o.dst ≠ some t := by
  intro i o ho
  have hm : o ∈ ops.toList := by
    rw [Array.getElem?_eq_some_iff] at ho
    obtain ⟨h, rfl⟩ := ho
    simp
  simpa using List.all_eq_true.1 h o hm

/-- a block that is known whole reads as its bytes -/
theorem Hold.block {w : World} {g : Nat} {l : List UInt8} {t : TypeId} {fr : Nat × Nat} (h : w.heap[g]? = some (.cells (bv l).toArray t fr)) (n : Nat) (hn : n = l.length) : Hold w (some ⟨g, 0, none⟩) n n l := by
  subst hn
  refine ⟨rfl, Nat.le_refl _, (fun e => by cases e), fun _ => ⟨g, 0, rfl, fun j hj => ?_⟩⟩
  rw [cell_of_row w g (0 + j) (bv l).toArray t fr h]
  have := (bv_get l j (.int .u8 (l[j].toNat : Int))).2 ⟨hj, rfl⟩
  simpa using this
/-- these bytes lie elsewhere than in block q -/
def Far (q : Option Nat) (w : World) (A : Option Addr) (n c : Nat) (l : List UInt8) : Prop := Hold w A n c l ∧ ∀ b off, 0 < n → A = some ⟨b, off, none⟩ → some b ≠ q
section
variable {w w' : World} {q : Option Nat} {A : Option Addr} {n c : Nat} {l : List UInt8}
theorem Far.below (h : Far q w A n c l) (hb : Below w.heap.size w w') : Far q w' A n c l := ⟨h.1.below hb, h.2⟩
theorem Far.grown (h : Far q w A n c l) (hg : w.grownBy w' q) : Far q w' A n c l := by
  refine ⟨⟨h.1.1, h.1.2.1, h.1.2.2.1, fun hn => ?_⟩, h.2⟩
  obtain ⟨b, off, e, hc⟩ := h.1.2.2.2 hn
  exact ⟨b, off, e, fun j hj => hg.cell (hc j hj) (h.2 b off hn e)⟩
theorem Far.own {base : Nat} (h : w.ownsRow base 5 1 (.slice A n c) n (bv l)) (hq : ∀ k, q = some k → k < base) : Far q w A n c l := by
  refine ⟨Hold.of_own h, fun b off _ e he => ?_⟩
  subst e
  have h1 := (h.lt b rfl).1
  have h2 := hq b he.symm
  omega
theorem Far.old {W : World} (h : Hold w A n c l) (hb : Below w.heap.size w W) (hq : ∀ k, q = some k → w.heap.size ≤ k) : Far q W A n c l := by
  refine ⟨h.below hb, fun b off hn e he => ?_⟩
  obtain ⟨b', off', e', hc⟩ := h.2.2.2 hn
  rw [e] at e'
  injection e' with e'
  injection e' with h1 h2
  have h3 := hq b he.symm
  have h4 : b' < w.heap.size := by
    have := World.block_lt_of_cell? w _ (hc 0 (by rw [h.1]; exact hn))
    exact this
  omega
end

end Go.Proofs.YtnmailhlncchmaaDoor
