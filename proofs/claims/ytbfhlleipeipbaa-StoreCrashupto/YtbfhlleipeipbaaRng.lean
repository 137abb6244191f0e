/-
  What is proved: how a loop over a method value's calls is walked: the regions of its body go as anywhere else, and the whole loop goes round by round. Conditions: the body holds no deferred call; what the loop's own book-keeping lays is kept.
-/
import Derived.RangeFuncNested
import Derived.RangeFuncBound
import Derived.RangeFuncLeaves
import Derived.RangeFuncCalls
import Derived.OrdersIn
import Derived.StillTail
import Derived.Shelf.Abstract
import Derived.Shelf.RegionOpen
import Derived.WalkKit
import Derived.OwnWalkIn
import Derived.TacticsInMore
import Derived.LoopNIn
import Derived.LoopIn
import Derived.Test.YtbfhlleipeipbaaSsb
import Derived.Test.YtbfhlleipeipbaaRows
namespace Go.Proofs.Ytbfhlleipeipbaa
open Go.RowKit Go.Shelf

/-- no operation defers a call -/
def calmB (ops : List Oper) : Bool := ops.all fun o => match o.op with | .defer _ => false | _ => true
theorem calm_at {l : List Oper} (h : calmB l = true) {o : Oper} (ho : o ∈ l) : ∀ c, o.op ≠ .defer c := by
  intro c hc
  have := List.all_eq_true.1 h o ho
  simp [hc] at this

section
variable {P : Program} {n : Nat} {l : Nat}
theorem oper_in {o : Oper} {a : Act} {w : World} {K K' : Act → World → Prop} {Q Q' : Exit → Act → World → Prop} (hc : ∀ c, o.op ≠ .defer c) (hK : ∀ a w, K a w → K' a w) (hP : ∀ c a w, Q (.panic c) a w → Q' (.panic c) a w) (hO : ¬ LetsOut Q)
    (h : o.wp P a w K Q) : o.wpIn (Fence.wide.inRound l) n P a w K' Q' := by
  unfold Oper.wpIn
  refine ⟨fun _ _ => trivial, ?_⟩
  rw [Fence.inRound_round, Oper.semAt_some l _ _ hc]
  unfold Oper.wp at h
  generalize (execOp a.eval o).run P w = r at *
  cases r with
  | ok x w' =>
    cases x with
    | value v => exact hK _ _ h
    | skip => exact hK _ _ h
    | defer d => exact hK _ _ h
    | enter f args =>
      refine ⟨fun h => (by simp [Fence.wide] at h), ?_⟩
      refine CallsIn.inRound l (callsIn_wide.2 (Calls.mono h ?_))
      intro e w'' he
      cases e with
      | returned v => exact hK _ _ he
      | panicked c => exact hP _ _ _ he
      | outgrown => exact absurd he hO
    | row row args =>
      refine ⟨fun h => (by simp [Fence.wide] at h), fun c cs _ => ?_⟩
      obtain ⟨v, w2, hr, hs⟩ := h c cs
      exact ⟨v, w2, hK _ _ hr, stepsIn_wide.2 hs⟩
    | _ => exact h.elim
  | halt x w' =>
    cases x with
    | panic v => exact hP _ _ _ h
    | _ => exact h.elim

variable {ops : Array Oper} {Q Q' : Exit → Act → World → Prop}
theorem ops_in (hc : calmB ops.toList = true) (hN : ∀ a w, Q .normal a w → Q' .normal a w) (hP : ∀ c a w, Q (.panic c) a w → Q' (.panic c) a w) (hO : ¬ LetsOut Q) :
    ∀ (is : List Nat) (a : Act) (w : World), wpOps P ops Q is a w → wpOpsIn (Fence.wide.inRound l) n P ops Q' is a w
  | [], a, w, h => hN a w h
  | i :: is, a, w, h => by
    unfold wpOps at h
    unfold wpOpsIn
    cases ho : ops[i]? with
    | none => simp only [ho] at h ⊢; exact ops_in hc hN hP hO is a w h
    | some o =>
      simp only [ho] at h ⊢
      split
      · rename_i hw
        rw [if_pos hw] at h
        rcases h with h | ⟨_, h⟩
        · exact oper_in (calm_at hc (by have := Array.mem_of_getElem? ho; simpa using this)) (ops_in hc hN hP hO is) hP hO h
        · exact absurd h hO
      · rename_i hw
        rw [if_neg hw] at h
        exact ⟨fun _ _ => trivial, ops_in hc hN hP hO is _ _ h⟩
theorem any_in (hc : calmB ops.toList = true) (hN : ∀ a w, Q .normal a w → Q' .normal a w) (hP : ∀ c a w, Q (.panic c) a w → Q' (.panic c) a w) (hO : ¬ LetsOut Q) :
    ∀ (fuel : Nat) (listed : Array Bool) (a : Act) (w : World), wpAny P .any ops Q fuel listed a w → wpAnyIn (Fence.wide.inRound l) n P .any ops Q' fuel listed a w
  | 0, listed, a, w, h => ⟨h.1, hN _ _ h.2⟩
  | fuel + 1, listed, a, w, h => by
    refine ⟨fun e => hN _ _ (h.1 e), fun i hi => ?_⟩
    have h := h.2 i hi
    unfold wpOp at h
    unfold wpOpIn
    cases ho : ops[i]? with
    | none => simp only [ho] at h ⊢; exact any_in hc hN hP hO fuel _ a w h
    | some o =>
      simp only [ho] at h ⊢
      split
      · rename_i hw
        rw [if_pos hw] at h
        rcases h with h | ⟨_, h⟩
        · exact oper_in (calm_at hc (by have := Array.mem_of_getElem? ho; simpa using this)) (any_in hc hN hP hO fuel _) hP hO h
        · exact absurd h hO
      · rename_i hw
        rw [if_neg hw] at h
        exact ⟨fun _ _ => trivial, any_in hc hN hP hO fuel _ _ _ h⟩
end

def only (K : Act → World → Prop) : Exit → Act → World → Prop := Exit.then K (fun _ _ _ => False)
theorem only_out (K : Act → World → Prop) : ¬ LetsOut (only K) := by
  rintro ⟨a, w, h⟩
  exact h
section
variable {P : Program} {n : Nat} {l : Nat} {Q : Exit → Act → World → Prop} {a : Act} {w : World} {id : Nat} {ops : List Oper}
/-- a region of a round's body goes as anywhere else -/
theorem region_in (K : Act → World → Prop) (hc : calmB ops = true) (hK : ∀ a w, K a w → Q .normal a w) (h : wpList P ops.toArray (only K) ops a w) : (Code.region id ops.toArray false).wpIn (Fence.wide.inRound l) n P Q a w := by
  refine wpIn_region ?_
  refine ops_in (Q := only K) (by simpa using hc) hK (fun _ _ _ h => h.elim) (only_out K) _ _ _ ?_
  have e := wpOps_eq_wpList (P := P) (Q := only K) (ops := ops.toArray) ops 0 (by simp)
  have e' : List.range ops.toArray.size = List.range' 0 ops.length := by simp [List.range_eq_range']
  rw [e', e]
  exact h
/-- one that draws its order, likewise: reads first, in whatever order, then the rest one behind the other -/
theorem region_tail_in (m : Nat) (V : World) (hV : V = w.drew) (K : Act → World → Prop) (hm : P.follows .mixedOrders = true) (hB : Region.lexTailB .any ops.toArray m = true) (hc : calmB ops = true) (hK : ∀ a w, K a w → Q .normal a w)
    (h : wpStill P ops.toArray V (fun a' => wpList P ops.toArray (only K) (ops.drop m) a' V) (ops.take m) a) : (Code.region id ops.toArray true).wpIn (Fence.wide.inRound l) n P Q a w := by
  subst hV
  simp only [Region.lexTailB, Bool.and_eq_true, decide_eq_true_eq] at hB
  obtain ⟨⟨⟨⟨b1, b2⟩, b3⟩, b4⟩, b5⟩ := hB
  have hm' : m < ops.length := by simpa using b2
  have e1 : (ops.take m).length = m := by simp; omega
  have e2 : (ops.drop m).length = ops.toArray.size - m := by simp
  have start : HeadInv .any ops.toArray m (Array.replicate ops.toArray.size false) :=
    ⟨by simp, fun j oj _ hl => absurd hl (by rw [getD_replicate_false]; decide), fun t _ ht => getD_in (by simpa using ht) (getD_replicate_false _ _)⟩
  have head := wpAnyL_lex (md := .any) (g := ops.toArray.size - m) b1 b3 b4 b2 (ops.take m) 0 _ a
    (fun j hj => by rw [e1] at hj; simp [hj]) (by simpa using e1) start (by rw [e1]; exact b5) h
  have all := wpAny_of_head (Q' := only K) (g := ops.toArray.size - m) (fun listed a' hL => by
    have rest := wpAny_of_seq (md := .any) (Q' := only K) (ops.drop m) m listed a' w.drew (fun j => by simp [List.getElem?_drop]) (by rw [e2]; exact hL.1) hL.2
    rwa [e2] at rest) _ _ _ head
  rw [e1, show m + (ops.toArray.size - m) = ops.toArray.size by omega] at all
  exact wpIn_region_any hm (any_in (by simpa using hc) hK (fun _ _ _ h => h.elim) (only_out K) _ _ _ _ all)
end

/-! ### what a loop's own book-keeping keeps -/
structure Calm (B : Nat) (W W' : World) : Prop where
  os : W'.os = W.os
  tape : W'.tape = W.tape
  output : W'.output = W.output
  size : W.heap.size ≤ W'.heap.size
  cells : ∀ (b : Nat) (C : Array Value) (t : TypeId) (fr : Nat × Nat), W.heap[b]? = some (.cells C t fr) → W'.heap[b]? = some (.cells C t fr)
  low : ∀ b, b < B → b < W.heap.size → W'.heap[b]? = W.heap[b]?
theorem Calm.alloc (B : Nat) (W : World) (o : Obj) : Calm B W (W.alloc o) :=
  ⟨rfl, rfl, rfl, by simp, fun b C t fr h => (Below.heap_alloc W o b (Array.getElem?_eq_some_iff.1 h).1).trans h, fun b _ h => Below.heap_alloc W o b h⟩
theorem Calm.put {B : Nat} {W : World} {r : Nat} {o : Obj} (o' : Obj) (h : W.heap[r]? = some o) (ho : o.isCells = false) (hB : B ≤ r) : Calm B W (W.putObj r o') :=
  ⟨rfl, rfl, rfl, by simp, fun b C t fr hb => by
    refine (World.putObj_heap_other (fun e => ?_)).trans hb
    subst e
    rw [h] at hb
    injection hb with hb
    subst hb
    simp [Obj.isCells] at ho, fun b hb _ => World.putObj_heap_other (by omega)⟩
/-- what a round keeps: from B on, whatever is no cells, and cells of the type of a span -/
def Keeps (B : Nat) (W W' : World) : Prop := W.heap.size ≤ W'.heap.size ∧ ∀ (b : Nat) (o : Obj), B ≤ b → W.heap[b]? = some o → (o.isCells = false ∨ ∃ C fr, o = .cells C 74 fr) → W'.heap[b]? = some o
end Go.Proofs.Ytbfhlleipeipbaa
