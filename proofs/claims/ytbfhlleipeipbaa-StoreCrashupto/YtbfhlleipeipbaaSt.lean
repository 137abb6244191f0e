/-
  What is proved: plain facts on arrays and lists for a sort that is stable: a segment of an array, what keeps the order of elements of which none is less than another, rotations, insertion. No program in it. No condition but those in each statement.
-/
import Derived.Sort.LotA
namespace Go.Proofs.Ytbfhlleipeipbaa
open Go.Sort
variable {α : Type} [Inhabited α]

/-- n elements from a on. -/
def seg (d : Array α) (a n : Nat) : List α := (List.range n).map fun t => d[a + t]!

theorem seg_length (d : Array α) (a n : Nat) : (seg d a n).length = n := by simp [seg]
theorem seg_get (d : Array α) (a n t : Nat) (h : t < (seg d a n).length) : (seg d a n)[t] = d[a + t]! := by simp [seg]
theorem seg_add (d : Array α) (a n m : Nat) : seg d a (n + m) = seg d a n ++ seg d (a + n) m := by
  apply List.ext_getElem
  · simp [seg]
  · intro i h1 h2
    rw [seg_get]
    by_cases h : i < n
    · rw [List.getElem_append_left (by rw [seg_length]; exact h), seg_get]
    · rw [List.getElem_append_right (by rw [seg_length]; omega), seg_get]
      simp only [seg_length]
      congr 1; omega
theorem seg_congr {d d' : Array α} {a a' n : Nat} (h : ∀ t, t < n → d[a + t]! = d'[a' + t]!) : seg d a n = seg d' a' n := by
  unfold seg
  apply List.map_congr_left
  intro t ht
  exact h t (List.mem_range.1 ht)
theorem seg_mem {d : Array α} {a n : Nat} {x : α} : x ∈ seg d a n ↔ ∃ t, t < n ∧ x = d[a + t]! := by
  unfold seg
  simp only [List.mem_map, List.mem_range]
  exact ⟨fun ⟨t, h, e⟩ => ⟨t, h, e.symm⟩, fun ⟨t, h, e⟩ => ⟨t, h, e.symm⟩⟩
theorem seg_whole (d : Array α) : seg d 0 d.size = d.toList := by
  apply List.ext_getElem
  · simp [seg]
  · intro i h1 h2
    rw [seg_get]
    have : i < d.size := by simpa using h2
    simp [this]
theorem seg_zero (d : Array α) (a : Nat) : seg d a 0 = [] := rfl

/-- Both lists have, of whatever elements of which none is less than another, the same ones in the same order. -/
def Stb {β : Type} (lt : β → β → Bool) (l l' : List β) : Prop := ∀ p : β → Bool, (∀ x y, p x = true → p y = true → lt x y = false) → l.filter p = l'.filter p

section
variable {β : Type} {lt : β → β → Bool}
theorem Stb.refl (l : List β) : Stb lt l l := fun _ _ => rfl
theorem Stb.trans {a b c : List β} (h : Stb lt a b) (k : Stb lt b c) : Stb lt a c := fun p hp => (h p hp).trans (k p hp)
theorem Stb.append {a a' b b' : List β} (h : Stb lt a a') (k : Stb lt b b') : Stb lt (a ++ b) (a' ++ b') := fun p hp => by
  rw [List.filter_append, List.filter_append, h p hp, k p hp]
theorem Stb.mem (hS : SWO lt) {a b : List β} (h : Stb lt a b) {x : β} (hx : x ∈ a) : x ∈ b := by
  classical
  have := h (fun y => decide (y = x)) (fun u v hu hv => by
    have e1 := of_decide_eq_true hu; have e2 := of_decide_eq_true hv
    subst e1; subst e2; exact hS.irrefl _)
  have hm : x ∈ a.filter (fun y => decide (y = x)) := List.mem_filter.2 ⟨hx, decide_eq_true rfl⟩
  rw [this] at hm
  exact (List.mem_filter.1 hm).1
theorem Stb.symm {a b : List β} (h : Stb lt a b) : Stb lt b a := fun p hp => (h p hp).symm
/-- Two neighbours of which the second one's elements are all less than the first one's change places. -/
theorem Stb.flip {u v : List β} (h : ∀ x ∈ u, ∀ y ∈ v, lt y x = true) : Stb lt (u ++ v) (v ++ u) := fun p hp => by
  rw [List.filter_append, List.filter_append]
  by_cases hu : u.filter p = []
  · rw [hu]; simp
  · by_cases hv : v.filter p = []
    · rw [hv]; simp
    · exfalso
      obtain ⟨x, hx⟩ := List.exists_mem_of_ne_nil _ hu
      obtain ⟨y, hy⟩ := List.exists_mem_of_ne_nil _ hv
      have hx := List.mem_filter.1 hx
      have hy := List.mem_filter.1 hy
      have := hp y x hy.2 hx.2
      rw [h x hx.1 y hy.1] at this
      exact Bool.noConfusion this

end

section
variable {lt : α → α → Bool}
/-- d' is d with the n elements from a on turned, so that it stays stable; all else as it was. -/
def StbIn (lt : α → α → Bool) (a n : Nat) (d d' : Array α) : Prop :=
  d'.size = d.size ∧ (∀ i, i < a ∨ a + n ≤ i → d'[i]! = d[i]!) ∧ Stb lt (seg d a n) (seg d' a n)
theorem StbIn.refl (a n : Nat) (d : Array α) : StbIn lt a n d d := ⟨rfl, fun _ _ => rfl, Stb.refl _⟩
theorem StbIn.trans {a n : Nat} {d e f : Array α} (h : StbIn lt a n d e) (k : StbIn lt a n e f) : StbIn lt a n d f :=
  ⟨k.1.trans h.1, fun i hi => (k.2.1 i hi).trans (h.2.1 i hi), h.2.2.trans k.2.2⟩
theorem StbIn.wide {a n : Nat} {d d' : Array α} (h : StbIn lt a n d d') (a' n' : Nat) (h1 : a' ≤ a) (h2 : a + n ≤ a' + n') : StbIn lt a' n' d d' := by
  refine ⟨h.1, fun i hi => h.2.1 i (by omega), ?_⟩
  obtain ⟨x, rfl⟩ : ∃ x, a = a' + x := ⟨a - a', by omega⟩
  obtain ⟨y, rfl⟩ : ∃ y, n' = x + n + y := ⟨n' - (x + n), by omega⟩
  rw [seg_add, seg_add, seg_add d', seg_add d']
  refine Stb.append (Stb.append ?_ h.2.2) ?_
  · rw [seg_congr (d' := d') (a' := a') fun t ht => (h.2.1 (a' + t) (by omega)).symm]; exact Stb.refl _
  · rw [seg_congr (d' := d') (a' := a' + (x + n)) fun t ht => (h.2.1 (a' + (x + n) + t) (by omega)).symm]; exact Stb.refl _
theorem StbIn.all (hS : SWO lt) {a n : Nat} {d d' : Array α} (h : StbIn lt a n d d') (p : α → Prop) (hp : ∀ i, a ≤ i → i < a + n → p d[i]!) : ∀ i, a ≤ i → i < a + n → p d'[i]! := by
  intro i h1 h2
  have hm : d'[i]! ∈ seg d' a n := seg_mem.2 ⟨i - a, by omega, by congr 1; omega⟩
  obtain ⟨t, ht, e⟩ := seg_mem.1 (h.2.2.symm.mem hS hm)
  rw [e]
  exact hp _ (by omega) (by omega)

theorem swp_at (d : Array α) {i j : Nat} (hi : i < d.size) (hj : j < d.size) (k : Nat) : (swp d i j)[k]! = if k = j then d[i]! else if k = i then d[j]! else d[k]! := swp_get d hi hj k

/-- Two neighbours, the second less than the first, change places. -/
theorem StbIn.adj (d : Array α) (j : Nat) (hj : j + 1 < d.size) (hl : lt d[j + 1]! d[j]! = true) : StbIn lt j 2 d (swp d (j + 1) j) := by
  have g := swp_at d (i := j + 1) (j := j) hj (by omega)
  refine ⟨by simp [swp], fun i hi => by rw [g, if_neg (by omega), if_neg (by omega)], ?_⟩
  have e1 : seg d j 2 = [d[j]!] ++ [d[j + 1]!] := rfl
  have e2 : seg (swp d (j + 1) j) j 2 = [d[j + 1]!] ++ [d[j]!] := by
    show [(swp d (j + 1) j)[j + 0]!, (swp d (j + 1) j)[j + 1]!] = _
    rw [g, g, if_pos (by omega), if_neg (by omega), if_pos rfl]; rfl
  rw [e1, e2]
  exact Stb.flip fun x hx y hy => by
    rw [List.mem_singleton.1 hx, List.mem_singleton.1 hy]; exact hl

theorem insInner_stb (a i : Nat) : ∀ (j : Nat) (d : Array α), j ≤ i → i < d.size → StbIn lt a (i + 1 - a) d (insInner lt a j d)
  | 0, d, _, _ => by unfold insInner; exact StbIn.refl _ _ _
  | j + 1, d, hj, hi => by
    unfold insInner
    split
    · rename_i hc
      simp only [Bool.and_eq_true, decide_eq_true_eq] at hc
      exact ((StbIn.adj d j (by omega) hc.2).wide _ _ (by omega) (by omega)).trans (insInner_stb a i j _ (by omega) (by simpa [swp] using hi))
    · exact StbIn.refl _ _ _
theorem insOuter_stb (a b : Nat) : ∀ (n i : Nat) (d : Array α), b - i = n → a ≤ i → b ≤ d.size → StbIn lt a (b - a) d (insOuter lt a b i d)
  | 0, i, d, hn, _, _ => by rw [insOuter, if_neg (by omega)]; exact StbIn.refl _ _ _
  | n + 1, i, d, hn, hai, hb => by
    rw [insOuter, if_pos (by omega)]
    have h1 := insInner_stb (lt := lt) a i i d (Nat.le_refl _) (by omega)
    exact (h1.wide a (b - a) (Nat.le_refl _) (by omega)).trans (insOuter_stb a b n (i + 1) _ (by omega) (by omega) (by rw [h1.1]; exact hb))
theorem insertionSort_stb (d : Array α) (a b : Nat) (hb : b ≤ d.size) : StbIn lt a (b - a) d (insertionSort lt d a b) := by
  unfold insertionSort
  by_cases h : a + 1 ≤ b
  · exact insOuter_stb a b _ (a + 1) d rfl (by omega) hb
  · rw [insOuter, if_neg (by omega)]; exact StbIn.refl _ _ _
theorem insertionSort_srt (hS : SWO lt) (d : Array α) (a b : Nat) (hab : a ≤ b) (hb : b ≤ d.size) : SortedIn lt a b (insertionSort lt d a b) := (insertionSort_holds (lt := lt) hS d a b hab hb).2

/-! ### swapRange, rotate -/
/-- What swapRange leaves. -/
def Swapped (a b n : Nat) (d d' : Array α) : Prop :=
  d'.size = d.size ∧ (∀ t, t < n → d'[a + t]! = d[b + t]!) ∧ (∀ t, t < n → d'[b + t]! = d[a + t]!) ∧ ∀ i, (i < a ∨ a + n ≤ i) → (i < b ∨ b + n ≤ i) → d'[i]! = d[i]!
theorem Swapped.zero (a b : Nat) (d : Array α) : Swapped a b 0 d d := ⟨rfl, fun _ h => absurd h (Nat.not_lt_zero _), fun _ h => absurd h (Nat.not_lt_zero _), fun _ _ _ => rfl⟩
theorem Swapped.succ {a b n : Nat} {d e : Array α} (h : Swapped a b n d e) (hab : a + n < b) (hb : b + n < d.size) : Swapped a b (n + 1) d (swp e (a + n) (b + n)) := by
  have hs := h.1
  have g := swp_at e (i := a + n) (j := b + n) (by omega) (by omega)
  refine ⟨by simpa [swp] using hs, fun t ht => ?_, fun t ht => ?_, fun i h1 h2 => ?_⟩
  · rw [g, if_neg (by omega)]
    by_cases e1 : t = n
    · subst e1; rw [if_pos rfl]; exact h.2.2.2 _ (by omega) (by omega)
    · rw [if_neg (by omega)]; exact h.2.1 t (by omega)
  · rw [g]
    by_cases e1 : t = n
    · subst e1; rw [if_pos rfl]; exact h.2.2.2 _ (by omega) (by omega)
    · rw [if_neg (by omega), if_neg (by omega)]; exact h.2.2.1 t (by omega)
  · rw [g, if_neg (by omega), if_neg (by omega)]; exact h.2.2.2 i (by omega) (by omega)

/-- What rotate leaves: the n elements from a on, and the m behind them, have changed places. -/
def Rotated (a n m : Nat) (d d' : Array α) : Prop :=
  d'.size = d.size ∧ (∀ i, (i < a ∨ a + n + m ≤ i) → d'[i]! = d[i]!) ∧ (∀ t, t < m → d'[a + t]! = d[a + n + t]!) ∧ ∀ t, t < n → d'[a + m + t]! = d[a + t]!
theorem Rotated.stb {a n m : Nat} {d d' : Array α} (h : Rotated a n m d d') (hl : ∀ t, t < n → ∀ s, s < m → lt d[a + n + s]! d[a + t]! = true) : StbIn lt a (n + m) d d' := by
  refine ⟨h.1, fun i hi => h.2.1 i (by omega), ?_⟩
  have e2 : seg d' a (n + m) = seg d (a + n) m ++ seg d a n := by
    rw [show n + m = m + n by omega, seg_add, seg_congr (d' := d) (a' := a + n) fun t ht => h.2.2.1 t ht, seg_congr (d' := d) (a' := a) fun t ht => h.2.2.2 t ht]
  rw [seg_add, e2]
  refine Stb.flip fun x hx y hy => ?_
  obtain ⟨t, ht, rfl⟩ := seg_mem.1 hx
  obtain ⟨s, hs, rfl⟩ := seg_mem.1 hy
  exact hl t ht s hs
/-- Both of one length. -/
theorem Rotated.even {a n : Nat} {d d' : Array α} (h : Swapped a (a + n) n d d') : Rotated a n n d d' :=
  ⟨h.1, fun i hi => h.2.2.2 i (by omega) (by omega), h.2.1, h.2.2.1⟩
/-- The first one is the longer one: its beginning has changed places with the second one. -/
theorem Rotated.left {a n m : Nat} {d e f : Array α} (h : Swapped a (a + n) m d e) (hm : m ≤ n) (k : Rotated (a + m) (n - m) m e f) : Rotated a n m d f := by
  refine ⟨k.1.trans h.1, fun i hi => ?_, fun t ht => ?_, fun t ht => ?_⟩
  · rw [k.2.1 i (by omega)]; exact h.2.2.2 i (by omega) (by omega)
  · rw [k.2.1 (a + t) (by omega)]; exact h.2.1 t ht
  · by_cases h1 : t < m
    · rw [k.2.2.1 t h1, show a + m + (n - m) + t = a + n + t by omega]; exact h.2.2.1 t h1
    · have := k.2.2.2 (t - m) (by omega)
      rw [show a + m + m + (t - m) = a + m + t by omega, show a + m + (t - m) = a + t by omega] at this
      rw [this]; exact h.2.2.2 _ (by omega) (by omega)
/-- The second one is the longer one: its end has changed places with the first one. -/
theorem Rotated.right {a n m : Nat} {d e f : Array α} (h : Swapped a (a + m) n d e) (hm : n ≤ m) (k : Rotated a n (m - n) e f) : Rotated a n m d f := by
  refine ⟨k.1.trans h.1, fun i hi => ?_, fun t ht => ?_, fun t ht => ?_⟩
  · rw [k.2.1 i (by omega)]; exact h.2.2.2 i (by omega) (by omega)
  · by_cases h1 : t < m - n
    · rw [k.2.2.1 t h1]; exact h.2.2.2 _ (by omega) (by omega)
    · have := k.2.2.2 (t - (m - n)) (by omega)
      rw [show a + (m - n) + (t - (m - n)) = a + t by omega] at this
      rw [this, h.2.1 _ (by omega)]; congr 1; omega
  · rw [k.2.1 (a + m + t) (by omega)]; exact h.2.2.1 t ht
end
end Go.Proofs.Ytbfhlleipeipbaa
