/-
  What is proved: what the document's own functions that lay numbers, texts and truths behind bytes answer, and that they turn nothing that was there.
-/
import Derived.Test.YtbfhlleipeipbaaPuts
import Derived.Laws.BytesArg
import Derived.Laws.AppendOwnNone
namespace Go.Proofs.Ytbfhlleipeipbaa
open Go.RowKit

theorem conv_hold {w : World} {A : Option Addr} {n c : Nat} {l : List UInt8} (h : Hold w A n c l) : (convert 43 9 (.slice A n c)).run Try.prog w = .ok (.string ⟨l.toArray⟩) w := by
  obtain rfl := h.1
  cases A with
  | none =>
    have h0 := h.none_ rfl
    have hl : l = [] := List.eq_nil_of_length_eq_zero h0.1
    subst hl
    exact run_convert_bytes_nil w 43 5 Try.underlying43 Try.underlying5 _ _ 9 Try.underlying9
  | some a =>
    refine run_convert_bytes_back w 43 9 5 a c l Try.underlying43 Try.underlying5 Try.underlying9 (fun j hj => ?_)
    exact h.cells a rfl j _ ((bv_get l j _).2 ⟨hj, rfl⟩)

/-- what is owned stays owned while nothing that was there turns -/
theorem own_below {w w' : World} {base : Nat} {v : Value} {n : Nat} {xs : List Value} (h : w.ownsRow base 5 1 v n xs) (hb : Below w.heap.size w w') : w'.ownsRow base 5 1 v n xs :=
  h.kept (row := none) ⟨hb.os, hb.tape, hb.output, hb.size, fun k hk _ => hb.block k hk⟩ (by cases hv : v.ownBlock <;> simp)

end Go.Proofs.Ytbfhlleipeipbaa
