/-
  What is proved: plain facts on arrays that are sorted block by block, for a merge sort from below. No program in it. No condition but those in each statement.
-/
import Derived.Test.YtbfhlleipeipbaaSm
namespace Go.Proofs.Ytbfhlleipeipbaa
open Go.Sort
variable {α : Type} [Inhabited α] {lt : α → α → Bool}

/-- Sorted within each block of bs places, from lo to hi. -/
def Blk (lt : α → α → Bool) (bs lo hi : Nat) (d : Array α) : Prop := ∀ i j, lo ≤ i → i < j → j < hi → i / bs = j / bs → lt d[j]! d[i]! = false

theorem Blk.none (bs lo hi : Nat) (d : Array α) (h : hi ≤ lo) : Blk lt bs lo hi d := fun i j h1 h2 h3 _ => by omega
/-- Within one block. -/
theorem Blk.one {bs t lo hi x y : Nat} {d : Array α} (h : Blk lt bs lo hi d) (hx : bs * t ≤ x) (hy : y ≤ bs * t + bs) (h1 : lo ≤ x) (h2 : y ≤ hi) : SortedIn lt x y d := fun i j hi hj hk => by
  refine h i j (by omega) hj (by omega) ?_
  have e1 : i / bs = t := Nat.div_eq_of_lt_le (by rw [Nat.mul_comm]; omega) (by rw [Nat.add_mul, Nat.one_mul, Nat.mul_comm]; omega)
  have e2 : j / bs = t := Nat.div_eq_of_lt_le (by rw [Nat.mul_comm]; omega) (by rw [Nat.add_mul, Nat.one_mul, Nat.mul_comm]; omega)
  rw [e1, e2]
/-- A block more. -/
theorem Blk.snoc {bs t b : Nat} {d d' : Array α} (hbs : 0 < bs) (h : Blk lt bs 0 (bs * t) d) (st : StbIn lt (bs * t) (b - bs * t) d d') (so : SortedIn lt (bs * t) b d') : Blk lt bs 0 b d' := fun i j _ hj hk he => by
  by_cases hja : j < bs * t
  · rw [st.2.1 i (by omega), st.2.1 j (by omega)]; exact h i j (Nat.zero_le _) hj hja he
  · by_cases hia : i < bs * t
    · exfalso
      have e1 : i / bs < t := Nat.div_lt_of_lt_mul hia
      have e2 : t ≤ j / bs := (Nat.le_div_iff_mul_le hbs).2 (by rw [Nat.mul_comm]; omega)
      omega
    · exact so i j (by omega) hj hk
/-- What stands behind stays. -/
theorem Blk.rest {bs a b lo hi : Nat} {d d' : Array α} (h : Blk lt bs lo hi d) (hl : lo ≤ b) (st : StbIn lt a (b - a) d d') (hab : a ≤ b) : Blk lt bs b hi d' := fun i j h1 h2 h3 he => by
  rw [st.2.1 i (by omega), st.2.1 j (by omega)]; exact h i j (by omega) h2 h3 he
theorem Blk.all {bs n : Nat} {d : Array α} (h : Blk lt bs 0 n d) (hn : n ≤ bs) : SortedIn lt 0 n d := h.one (t := 0) (by omega) (by omega) (Nat.le_refl _) (Nat.le_refl _)
end Go.Proofs.Ytbfhlleipeipbaa
