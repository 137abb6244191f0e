/-
  What is proved: the walk of the law UtfBack: it returns true and turns nothing that was there. Conditions: the list is within Go's own reach, and holds numbers of 32 bits.
-/
import Derived.Test.YtnemciagocicmaaUj
namespace Go.Proofs.Ytnemciagocicmaa
open Go.RowKit

/-! ### lists -/
def iv (l : List Int) : List Value := l.map fun x => Value.int .i32 x
theorem iv_length (l : List Int) : (iv l).length = l.length := by simp [iv]
theorem iv_append (l m : List Int) : iv (l ++ m) = iv l ++ iv m := by simp [iv]
theorem iv_one (l : List Int) : ∀ u ∈ iv l, u.oneCell' = true := by
  intro u hu
  obtain ⟨_, _, rfl⟩ := List.mem_map.1 hu
  rfl
/-- the bytes of these numbers, and those of them that are runes -/
def bytesOfL (xs : List Int) : List UInt8 := (xs.map put).flatten
def keptL (xs : List Int) : List Int := xs.filter fun x => decide (isR x)
theorem bytes_app (a b : List Int) : bytesOfL (a ++ b) = bytesOfL a ++ bytesOfL b := by
  unfold bytesOfL
  rw [List.map_append, List.flatten_append]
theorem bytes_one (x : Int) : bytesOfL [x] = put x := by simp [bytesOfL]
theorem bytes_snoc (xs : List Int) (i : Nat) (h : i < xs.length) : bytesOfL (xs.take (i + 1)) = bytesOfL (xs.take i) ++ put xs[i] := by
  rw [List.take_succ_eq_append_getElem h, bytes_app, bytes_one]
theorem kept_yes (xs : List Int) (i : Nat) (h : i < xs.length) (hr : isR xs[i]) : keptL (xs.take (i + 1)) = keptL (xs.take i) ++ [xs[i]] := by
  unfold keptL
  rw [List.take_succ_eq_append_getElem h, List.filter_append]
  simp [hr]
theorem kept_no (xs : List Int) (i : Nat) (h : i < xs.length) (hr : ¬ isR xs[i]) : keptL (xs.take (i + 1)) = keptL (xs.take i) := by
  unfold keptL
  rw [List.take_succ_eq_append_getElem h, List.filter_append]
  simp [hr]
theorem bytes_le (xs : List Int) : (bytesOfL xs).length ≤ 4 * xs.length := by
  induction xs with
  | nil => simp [bytesOfL]
  | cons x xs ih =>
    have e : bytesOfL (x :: xs) = put x ++ bytesOfL xs := by simp [bytesOfL]
    have : sz x ≤ 4 := by
      by_cases h : isR x
      · exact (sz_pos h).2
      · rw [sz_not h]; omega
    rw [e, List.length_append, put_length, List.length_cons]
    omega
theorem kept_le (xs : List Int) : (keptL xs).length ≤ xs.length := List.length_filter_le _ _
theorem bytes_kept (xs : List Int) : bytesOfL xs = bytesOfL (keptL xs) := by
  induction xs with
  | nil => rfl
  | cons x xs ih =>
    have e : bytesOfL (x :: xs) = put x ++ bytesOfL xs := by simp [bytesOfL]
    by_cases h : isR x
    · have e2 : keptL (x :: xs) = x :: keptL xs := by simp [keptL, h]
      have e3 : bytesOfL (x :: keptL xs) = put x ++ bytesOfL (keptL xs) := by simp [bytesOfL]
      rw [e, e2, e3, ih]
    · have e2 : keptL (x :: xs) = keptL xs := by simp [keptL, h]
      rw [e, e2, put_not h, ih]
      rfl
theorem kept_is (xs : List Int) : ∀ r ∈ keptL xs, isR r := by
  intro r hr
  have := (List.mem_filter.1 hr).2
  exact of_decide_eq_true this
theorem bytes_drop (K : List Int) (i : Nat) (h : i < K.length) : (bytesOfL K).drop (bytesOfL (K.take i)).length = put K[i] ++ bytesOfL (K.drop (i + 1)) := by
  have e : bytesOfL K = bytesOfL (K.take i) ++ (put K[i] ++ bytesOfL (K.drop (i + 1))) := by
    have : K = K.take i ++ ([K[i]] ++ K.drop (i + 1)) := by
      rw [List.singleton_append, ← List.drop_eq_getElem_cons h, List.take_append_drop]
    have h2 := congrArg bytesOfL this
    rw [bytes_app, bytes_app, bytes_one] at h2
    exact h2
  conv => lhs; rw [e]
  rw [List.drop_left]
theorem bytes_take_le (K : List Int) (i : Nat) : (bytesOfL (K.take i)).length ≤ (bytesOfL K).length := by
  have e : bytesOfL K = bytesOfL (K.take i) ++ bytesOfL (K.drop i) := by
    rw [← bytes_app, List.take_append_drop]
  rw [e, List.length_append]
  omega
theorem back_next (K : List Int) (hK : ∀ r ∈ K, isR r) (i : Nat) (h : i < K.length) : nxAt ⟨(bytesOfL K).toArray⟩ ((bytesOfL (K.take i)).length : Int) = (K[i], sz K[i]) := by
  rw [nxAt_nat]
  show nx ((bytesOfL K).drop _) = _
  rw [bytes_drop K i h]
  exact nx_put (hK _ (List.getElem_mem h)) _
theorem back_bad (K : List Int) (hK : ∀ r ∈ K, isR r) : bad ⟨(bytesOfL K).toArray⟩ = -1 := by
  have := badAt_runes K hK []
  simpa [bad, bytesOfL] using this
theorem back_size (l : List UInt8) : (⟨l.toArray⟩ : ByteArray).size = l.length := by
  show l.toArray.size = _
  simp
/-! ### a list of numbers in memory -/
def HoldI (w : World) (A : Option Addr) (n : Nat) (xs : List Int) : Prop :=
  xs.length = n ∧ (0 < n → ∃ b off, A = some ⟨b, off, none⟩ ∧ ∀ j (hj : j < xs.length), w.cell? ⟨b, off + j, none⟩ = some (.int .i32 xs[j]))
theorem HoldI.below {w w' : World} {A : Option Addr} {n : Nat} {xs : List Int} (h : HoldI w A n xs) (hb : Below w.heap.size w w') : HoldI w' A n xs :=
  ⟨h.1, fun hn => by obtain ⟨b, off, e, hc⟩ := h.2 hn; exact ⟨b, off, e, fun j hj => cell_later hb (hc j hj)⟩⟩
theorem HoldI.at {w : World} {A : Option Addr} {n : Nat} {xs : List Int} (h : HoldI w A n xs) {k : Nat} (hk : k < n) : ∃ b off, ∃ hl : k < xs.length, A = some ⟨b, off, none⟩ ∧ w.cell? ⟨b, off + k, none⟩ = some (.int .i32 xs[k]) := by
  obtain ⟨b, off, e, hc⟩ := h.2 (by omega)
  exact ⟨b, off, by rw [h.1]; exact hk, e, hc k (by rw [h.1]; exact hk)⟩
theorem Try.info21 : (Try.prog.info? 21).map (fun i => (i.zero, i.size, i.bytes)) = some (some (.int .i32 0), 1, 4) := by kernel_rfl
theorem own_formI {w : World} {base : Nat} {v : Value} {n : Nat} {xs : List Value} {e z : Nat} (h : w.ownsRow base e z v n xs) : ∃ A c, v = .slice A n c := by
  rcases h.2 with ⟨rfl, rfl⟩ | ⟨g, cap, cur, rfl, _⟩
  · exact ⟨_, _, rfl⟩
  · exact ⟨_, _, rfl⟩
theorem own_tag {w : World} {base : Nat} {v : Value} {n z b : Nat} {xs : List Value} {e : TypeId} (h : w.ownsRow base e z v n xs) (hb : v.ownBlock = some b) : ∃ C, w.heap[b]? = some (.cells C e (0, 0)) := by
  rcases h.2 with ⟨rfl, _⟩ | ⟨g, cap, cur, rfl, _, hg, _⟩
  · simp [Value.ownBlock] at hb
  · simp [Value.ownBlock] at hb
    subst hb
    exact ⟨cur, hg⟩
theorem own_apart {w : World} {base n m z y : Nat} {v u : Value} {xs ys : List Value} {e f : TypeId} (h : w.ownsRow base e z v n xs) (k : w.ownsRow base f y u m ys) (hne : e ≠ f) : v.ownBlock = none ∨ v.ownBlock ≠ u.ownBlock := by
  cases hv : v.ownBlock with
  | none => exact .inl rfl
  | some b =>
    refine .inr fun hu => ?_
    obtain ⟨C, hC⟩ := own_tag h hv
    obtain ⟨D, hD⟩ := own_tag k hu.symm
    rw [hC] at hD
    simp at hD
    exact hne hD.2
theorem own_belowI {w w' : World} {base : Nat} {v : Value} {n e z : Nat} {xs : List Value} (h : w.ownsRow base e z v n xs) (hb : Below w.heap.size w w') : w'.ownsRow base e z v n xs :=
  h.kept (row := none) ⟨hb.os, hb.tape, hb.output, hb.size, fun k hk _ => hb.block k hk⟩ (by cases hv : v.ownBlock <;> simp)
theorem HoldI.of_own {w : World} {base : Nat} {A : Option Addr} {n c : Nat} {xs : List Int} (h : w.ownsRow base 21 1 (.slice A n c) n (iv xs)) : HoldI w A n xs := by
  have hl : xs.length = n := by have := h.1; rw [iv_length] at this; omega
  refine ⟨hl, fun hn => ?_⟩
  rcases h.2 with ⟨e, rfl⟩ | ⟨g, cap, cur, e, _⟩
  · omega
  · simp at e
    obtain ⟨rfl, rfl⟩ := e
    refine ⟨g, 0, rfl, fun j hj => ?_⟩
    have := h.cells (g := g) rfl j (.int .i32 xs[j]) (by simp [iv])
    rw [Addr.add_lit] at this
    exact this
/-- the law's two rows, so far -/
structure Bk (w : World) (xs : List Int) (v3 v4 : Value) (n3 n4 : Nat) (bs : List UInt8) (ks : List Int) (W : World) : Prop where
  b : W.ownsRow w.heap.size 5 1 v3 n3 (bv bs)
  k : W.ownsRow w.heap.size 21 1 v4 n4 (iv ks)
  bel : Below w.heap.size w W
theorem Bk.called {w W W' : World} {xs : List Int} {v3 v4 : Value} {n3 n4 : Nat} {bs : List UInt8} {ks : List Int} (h : Bk w xs v3 v4 n3 n4 bs ks W) (hb : Below W.heap.size W W') : Bk w xs v3 v4 n3 n4 bs ks W' :=
  ⟨own_belowI h.b hb, own_belowI h.k hb, h.bel.trans (hb.mono h.bel.size)⟩
theorem Bk.bytes {w W W' : World} {xs : List Int} {v3 v4 v' : Value} {n3 n4 n' : Nat} {bs bs' : List UInt8} {ks : List Int} (h : Bk w xs v3 v4 n3 n4 bs ks W) (ho : W'.ownsRow w.heap.size 5 1 v' n' (bv bs')) (hg : W.grownBy W' v3.ownBlock) : Bk w xs v' v4 n' n4 bs' ks W' :=
  ⟨ho, h.k.kept hg (own_apart h.k h.b (by decide)), h.bel.grown hg h.bel.size (fun k hk => (h.b.lt k hk).1)⟩
theorem Bk.kept {w W W' : World} {xs : List Int} {v3 v4 v' : Value} {n3 n4 n' : Nat} {bs : List UInt8} {ks ks' : List Int} (h : Bk w xs v3 v4 n3 n4 bs ks W) (ho : W'.ownsRow w.heap.size 21 1 v' n' (iv ks')) (hg : W.grownBy W' v4.ownBlock) : Bk w xs v3 v' n3 n' bs ks' W' :=
  ⟨h.b.kept hg (own_apart h.b h.k (by decide)), ho, h.bel.grown hg h.bel.size (fun k hk => (h.k.lt k hk).1)⟩
end Go.Proofs.Ytnemciagocicmaa
