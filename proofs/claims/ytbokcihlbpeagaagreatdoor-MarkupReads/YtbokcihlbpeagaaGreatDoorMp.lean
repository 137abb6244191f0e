/-
  What is proved: plain mathematics: line ends told as one are what two replacings make. Conditions: those in each statement.
-/
import Derived.Test.YtbokcihlbpeagaaGreatDoorMn
import Derived.Lib.Replace
import Derived.Lib.CountLaws
namespace Go.Proofs.YtbokcihlbpeagaaGreatDoor

/-- each instance replaced, from the left -/
def repF (old new : List UInt8) : Nat → List UInt8 → List UInt8
  | 0, s => s
  | _ + 1, [] => []
  | n + 1, b :: t => if old.isPrefixOf (b :: t) = true then new ++ repF old new n ((b :: t).drop old.length) else b :: repF old new n t
theorem repF_miss (old new : List UInt8) (ho : old ≠ []) : ∀ (n : Nat) (s : List UInt8), Lib.index s old = -1 → repF old new n s = s := by
  intro n
  induction n with
  | zero => intro s _; rfl
  | succ n ih =>
    intro s hs
    cases s with
    | nil => rfl
    | cons b t =>
      unfold Lib.index at hs
      by_cases h : old.isPrefixOf (b :: t) = true
      · rw [if_pos h] at hs; cases hs
      · rw [if_neg h] at hs
        by_cases h2 : (Lib.index t old == -1) = true
        · rw [repF, if_neg h, ih t (beq_iff_eq.1 h2)]
        · rw [if_neg h2] at hs
          have h1 := Lib.index_ge t old
          have h3 : Lib.index t old ≠ -1 := fun e => h2 (beq_iff_eq.2 e)
          omega
theorem repF_hit (old new : List UInt8) (ho : old ≠ []) : ∀ (i n : Nat) (s : List UInt8), Lib.index s old = i → s.length < n → ∃ m, s.length - (i + old.length) < m ∧ repF old new n s = s.take i ++ new ++ repF old new m (s.drop (i + old.length)) := by
  intro i
  induction i with
  | zero =>
    intro n s hs hn
    cases s with
    | nil =>
      unfold Lib.index at hs
      have : old.isEmpty = false := by simpa using ho
      rw [this] at hs
      simp at hs
    | cons b t =>
      cases n with
      | zero => omega
      | succ n =>
        unfold Lib.index at hs
        by_cases h : old.isPrefixOf (b :: t) = true
        · have hl : 0 < old.length := List.length_pos_iff.2 ho
          refine ⟨n, by simp at hn ⊢; omega, ?_⟩
          rw [repF, if_pos h]
          simp
        · rw [if_neg h] at hs
          by_cases h2 : (Lib.index t old == -1) = true
          · rw [if_pos h2] at hs; cases hs
          · rw [if_neg h2] at hs
            have h1 := Lib.index_ge t old
            have h3 : Lib.index t old ≠ -1 := fun e => h2 (beq_iff_eq.2 e)
            omega
  | succ i ih =>
    intro n s hs hn
    cases s with
    | nil =>
      unfold Lib.index at hs
      have : old.isEmpty = false := by simpa using ho
      rw [this] at hs
      have : (-1 : Int) = ((i + 1 : Nat) : Int) := hs
      omega
    | cons b t =>
      cases n with
      | zero => omega
      | succ n =>
        unfold Lib.index at hs
        by_cases h : old.isPrefixOf (b :: t) = true
        · rw [if_pos h] at hs
          have : (0 : Int) = ((i + 1 : Nat) : Int) := hs
          omega
        · rw [if_neg h] at hs
          by_cases h2 : (Lib.index t old == -1) = true
          · rw [if_pos h2] at hs
            have : (-1 : Int) = ((i + 1 : Nat) : Int) := hs
            omega
          · rw [if_neg h2] at hs
            obtain ⟨m, hm, he⟩ := ih n t (by have : Lib.index t old + 1 = ((i + 1 : Nat) : Int) := hs; omega) (by simp at hn; omega)
            refine ⟨m, by simp at hm ⊢; omega, ?_⟩
            rw [repF, if_neg h, he]
            rw [show i + 1 + old.length = (i + old.length) + 1 by omega]
            simp
theorem repF_more (old new : List UInt8) (ho : old ≠ []) : ∀ (m n : Nat) (s : List UInt8), s.length < m → s.length < n → repF old new m s = repF old new n s := by
  intro m
  induction m with
  | zero => intro n s h; omega
  | succ m ih =>
    intro n s hm hn
    cases n with
    | zero => omega
    | succ n =>
      cases s with
      | nil => rfl
      | cons b t =>
        have hl : 0 < old.length := List.length_pos_iff.2 ho
        simp only [repF]
        by_cases h : old.isPrefixOf (b :: t) = true
        · rw [if_pos h, if_pos h, ih n _ (by simp at hm ⊢; omega) (by simp at hn ⊢; omega)]
        · rw [if_neg h, if_neg h, ih n _ (by simp at hm; omega) (by simp at hn; omega)]
def rep (old new s : List UInt8) : List UInt8 := repF old new (s.length + 1) s
theorem replaceK_rep (old new : List UInt8) (ho : old ≠ []) : ∀ (k : Nat) (s : List UInt8), Lib.count s old = k → Lib.replaceK old new k s = rep old new s := by
  intro k
  induction k with
  | zero =>
    intro s hs
    have : Lib.index s old = -1 := by
      have h1 := Lib.index_ge s old
      by_cases h : Lib.index s old = -1
      · exact h
      · have := Lib.count_hit (s := s) (sub := old) (i := (Lib.index s old).toNat) ho (by omega)
        omega
    rw [Lib.replaceK, rep, repF_miss old new ho _ _ this]
  | succ k ih =>
    intro s hs
    obtain ⟨i, hi⟩ := Lib.index_of_count (s := s) (old := old) (by omega)
    have hc := Lib.count_hit (s := s) (sub := old) ho hi
    rw [Lib.replaceK_hit old new k s i hi, ih _ (by omega)]
    obtain ⟨m, hm, he⟩ := repF_hit old new ho i (s.length + 1) s hi (by omega)
    have hr := Lib.index_room s old (by omega)
    rw [rep, rep, he, repF_more old new ho m ((s.drop (i + old.length)).length + 1) _ (by rw [List.length_drop]; exact hm) (by omega)]
theorem replaceAll_rep (old new s : List UInt8) (ho : old ≠ []) (hne : old ≠ new) : Lib.replaceAll s old new = rep old new s := by
  unfold Lib.replaceAll Lib.replace
  rw [if_neg (by simp [hne])]
  unfold Lib.replaceNum
  rw [if_pos (.inl (by decide))]
  exact replaceK_rep old new ho _ s rfl
theorem rep_nil (old new : List UInt8) : rep old new [] = [] := rfl
theorem rep_hit {old new : List UInt8} (ho : old ≠ []) {b : UInt8} {t : List UInt8} (h : old.isPrefixOf (b :: t) = true) : rep old new (b :: t) = new ++ rep old new ((b :: t).drop old.length) := by
  have hl : 0 < old.length := List.length_pos_iff.2 ho
  rw [rep, repF, if_pos h, rep, repF_more old new ho _ (((b :: t).drop old.length).length + 1) _ (by simp; omega) (by omega)]
theorem rep_miss {old new : List UInt8} (_ho : old ≠ []) {b : UInt8} {t : List UInt8} (h : old.isPrefixOf (b :: t) = false) : rep old new (b :: t) = b :: rep old new t := by
  rw [rep, repF, if_neg (by simp [h])]
  rfl
/-- line ends told as one: 13 10 first, then what is left of 13 -/
theorem flat_two : ∀ (n : Nat) (s : List UInt8), s.length ≤ n → rep [13] [10] (rep [13, 10] [10] s) = flat1 s := by
  intro n
  induction n with
  | zero => intro s h; obtain rfl := List.length_eq_zero_iff.1 (by omega : s.length = 0); rfl
  | succ n ih =>
    intro s h
    cases s with
    | nil => rfl
    | cons b t =>
      by_cases hb : b = 13
      · subst hb
        cases t with
        | nil => decide
        | cons c u =>
          by_cases hc : c = 10
          · subst hc
            rw [rep_hit (by simp) (by simp [List.isPrefixOf])]
            simp only [List.length_cons, List.length_nil, List.drop_succ_cons, List.drop_zero, List.singleton_append]
            rw [rep_miss (by simp) (by simp [List.isPrefixOf]), ih u (by simp at h; omega)]
            rfl
          · rw [rep_miss (by simp) (by simp [List.isPrefixOf, Ne.symm hc]), rep_hit (by simp) (by simp [List.isPrefixOf])]
            simp only [List.length_cons, List.length_nil, List.drop_succ_cons, List.drop_zero, List.singleton_append]
            rw [ih (c :: u) (by simp at h ⊢; omega)]
            rw [flat1]
            intro x hx
            injection hx with h1 h2
            exact hc h1
      · rw [rep_miss (by simp) (by simp [List.isPrefixOf, Ne.symm hb]), rep_miss (by simp) (by simp [List.isPrefixOf, Ne.symm hb]), ih t (by simp at h; omega)]
        rw [flat1]
        · intro x hx _; exact hb hx
        · intro hx; exact hb hx
theorem flat_replace (s : List UInt8) : Lib.replaceAll (Lib.replaceAll s [13, 10] [10]) [13] [10] = flat1 s := by
  rw [replaceAll_rep _ _ _ (by simp) (by simp), replaceAll_rep _ _ _ (by simp) (by simp), flat_two _ s (Nat.le_refl _)]
theorem rep_len (old : List UInt8) (ho : old ≠ []) : ∀ (n : Nat) (s : List UInt8), s.length ≤ n → (rep old [10] s).length ≤ s.length := by
  intro n
  induction n with
  | zero => intro s h; obtain rfl := List.length_eq_zero_iff.1 (by omega : s.length = 0); simp [rep_nil]
  | succ n ih =>
    intro s h
    cases s with
    | nil => simp [rep_nil]
    | cons b t =>
      have hl : 0 < old.length := List.length_pos_iff.2 ho
      cases hp : old.isPrefixOf (b :: t) with
      | true =>
        rw [rep_hit ho hp]
        have := ih ((b :: t).drop old.length) (by rw [List.length_drop]; simp at h ⊢; omega)
        have hpl := (List.isPrefixOf_iff_prefix.1 hp).length_le
        rw [List.length_drop] at this
        simp at this hpl ⊢
        omega
      | false =>
        rw [rep_miss ho hp]
        have := ih t (by simp at h; omega)
        simp
        omega
theorem replace_len (s : List UInt8) : (Lib.replaceAll s [13, 10] [10]).length ≤ s.length := by
  rw [replaceAll_rep _ _ _ (by simp) (by simp)]; exact rep_len _ (by simp) _ s (Nat.le_refl _)
end Go.Proofs.YtbokcihlbpeagaaGreatDoor
