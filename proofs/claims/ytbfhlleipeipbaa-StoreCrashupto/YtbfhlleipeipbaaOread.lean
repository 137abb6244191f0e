/-
  What is proved: what Read answers: a reader of just these bytes, in new memory.
-/
import Derived.Test.YtbfhlleipeipbaaRdr
namespace Go.Proofs.Ytbfhlleipeipbaa
open Go.RowKit

/-- a new reader: it lies in new memory, and what it reads, too -/
def NewRdr (w : World) (l : List UInt8) (e : Ending) (w' : World) : Prop :=
  ∃ g, e = .returned (.pointer (some ⟨g, 0, none⟩)) ∧ Rdr w' g (some l) ∧ (∀ w2 : World, (∀ k, w.heap.size ≤ k → k < w'.heap.size → w2.heap[k]? = w'.heap[k]?) → Rdr w2 g (some l)) ∧ Below w.heap.size w w' ∧ w.heap.size ≤ g ∧ g < w'.heap.size

theorem join_one (A : Option Addr) (n c : Nat) (l : List UInt8) (w : World) (h : Hold w A n c l) (hn : n ≤ 281474976710656) :
    Calls Try.prog 83 #[.slice (some ⟨w.heap.size, 0, none⟩) 1 1] (w.alloc (.cells #[.slice A n c] 43)) (NewRow w l) := by
  have hW : Below w.heap.size w (w.alloc (.cells #[.slice A n c] 43)) := (Below.refl _ _).alloc (Nat.le_refl _) _
  refine join_new _ [(A, n, c, l)] _ w 1 rfl ?_ ?_ (by omega) (by simp [tot]; omega) _ (by simp [cat]) hW
  · intro j hj
    rw [cell_of_row _ w.heap.size j #[.slice A n c] 43 (0, 0) (heap_at _ _ _ rfl)]
    match j, hj with
    | 0, _ => rfl
  · intro p hp
    simp at hp
    subst hp
    exact h.below hW

theorem own_heap {w : World} {base : Nat} {A : Option Addr} {n c : Nat} {l : List UInt8} (h : w.ownsRow base 5 1 (.slice A n c) n (bv l)) {w2 : World} (h2 : ∀ k, base ≤ k → k < w.heap.size → w2.heap[k]? = w.heap[k]?) : w2.ownsRow base 5 1 (.slice A n c) n (bv l) := by
  refine ⟨h.1, ?_⟩
  rcases h.2 with h0 | ⟨g, cap, cur, hv, hb, hg, r⟩
  · exact .inl h0
  · exact .inr ⟨g, cap, cur, hv, hb, by rw [h2 g hb (Array.getElem?_eq_some_iff.1 hg).1]; exact hg, r⟩

set_option maxHeartbeats 400000 in
theorem oread_any (A : Option Addr) (n c : Nat) (l : List UInt8) (w : World) (h : Hold w A n c l) (hn : n ≤ 281474976710656) :
    Calls Try.prog 65 #[.slice A n c] w (NewRdr w l) := by
  have HJ := Lib.hid (join_one A n c l w h hn)
  have hl := h.1
  have HL := Lib.hid hl
  clear h hl
  go_enter Try.func65, Try.ntmps65
  go_wp2_with (go_at_call 83; refine HJ.out.mono ?_; rintro e w1 ⟨A1, n1, c1, rfl, hown, hb⟩)
  go_ret
  have hn1 : n1 = n := by
    have := hown.1
    rw [bv_length, HL.out] at this
    omega
  have hsz := hb.size
  refine ⟨w1.heap.size, rfl, ⟨A1, n1, c1, heap_at _ _ _ rfl, (Hold.of_own hown).below ((Below.refl _ _).alloc (Nat.le_refl _) _), by omega⟩, ?_, hb.alloc hsz _, hsz, by simp⟩
  intro w2 h2
  refine ⟨A1, n1, c1, ?_, Hold.of_own (own_heap hown (fun k h1 h3 => ?_)), by omega⟩
  · rw [h2 w1.heap.size hsz (by simp)]
    exact heap_at _ _ _ rfl
  · rw [h2 k h1 (by simp; omega)]
    exact Below.heap_alloc _ _ _ h3

theorem Rdr.below {w w' : World} {g : Nat} {s : St} (h : Rdr w g s) (hb : Below w.heap.size w w') : Rdr w' g s := by
  obtain ⟨A, n, c, hg, hh, hn⟩ := h
  exact ⟨A, n, c, (hb.block g (Array.getElem?_eq_some_iff.1 hg).1).trans hg, hh.below hb, hn⟩

theorem conv_all {w : World} {A : Option Addr} {n c : Nat} {l : List UInt8} (h : Hold w A n c l) : (∀ W, W = w → (convert 43 9 (.slice A n c)).run Try.prog W = .ok (.string ⟨l.toArray⟩) W) ∧ ∀ o, (convert 43 9 (.slice A n c)).run Try.prog (w.alloc o) = .ok (.string ⟨l.toArray⟩) (w.alloc o) :=
  ⟨fun W e => by subst e; exact conv_hold h, fun o => conv_hold (h.below ((Below.refl _ _).alloc (Nat.le_refl _) _))⟩

theorem conv_new (m : List UInt8) (W : World) (k n : Nat) (hk : k = W.heap.size) (hn : n = m.length) : (convert 43 9 (.slice (some ⟨k, 0, none⟩) n n)).run Try.prog (W.alloc (.cells (bv m).toArray 5)) = .ok (.string ⟨m.toArray⟩) (W.alloc (.cells (bv m).toArray 5)) := by
  subst hn
  exact conv_hold (Hold.new W m 5 (0, 0) k hk)

end Go.Proofs.Ytbfhlleipeipbaa
