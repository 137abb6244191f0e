/-
  What is proved: plain facts on arrays for a merge in place (symMerge): what its searches find, and that what is left is sorted and stable. No program in it. No condition but those in each statement.
-/
import Derived.Test.YtbfhlleipeipbaaSt
namespace Go.Proofs.Ytbfhlleipeipbaa
open Go.Sort
variable {α : Type} [Inhabited α]

section
variable {β : Type} {lt : β → β → Bool}
theorem lt_asym (hS : SWO lt) {x y : β} (h : lt x y = true) : lt y x = false := by
  cases k : lt y x with
  | false => rfl
  | true => have := hS.trans _ _ _ h k; rw [hS.irrefl] at this; exact this.symm
theorem lt_down (hS : SWO lt) {h t u : β} (h1 : lt h u = true) (h2 : lt h t = false) : lt t u = true := by
  cases k : lt t u with
  | true => rfl
  | false => have := hS.ntrans _ _ _ h2 k; rw [h1] at this; exact this.symm
theorem lt_up (hS : SWO lt) {h u v : β} (h1 : lt h u = true) (h2 : lt v u = false) : lt h v = true := by
  cases k : lt h v with
  | true => rfl
  | false => have := hS.ntrans _ _ _ k h2; rw [h1] at this; exact this.symm
end

section
variable {lt : α → α → Bool}
theorem Rotated.none_left (a m : Nat) (d : Array α) : Rotated a 0 m d d := ⟨rfl, fun _ _ => rfl, fun _ _ => rfl, fun _ h => absurd h (Nat.not_lt_zero _)⟩
theorem Rotated.none_right (a n : Nat) (d : Array α) : Rotated a n 0 d d := ⟨rfl, fun _ _ => rfl, fun _ h => absurd h (Nat.not_lt_zero _), fun _ _ => rfl⟩
/-- One element goes one place further on. -/
theorem Rotated.on {a n : Nat} {d e : Array α} (h : Rotated a 1 n d e) (hb : a + n + 1 < d.size) : Rotated a 1 (n + 1) d (swp e (a + n) (a + n + 1)) := by
  have hs := h.1
  have g := swp_at e (i := a + n) (j := a + n + 1) (by omega) (by omega)
  refine ⟨by simpa [swp] using hs, fun i hi => ?_, fun t ht => ?_, fun t ht => ?_⟩
  · rw [g, if_neg (by omega), if_neg (by omega)]; exact h.2.1 i (by omega)
  · rw [g, if_neg (by omega)]
    by_cases e1 : t = n
    · subst e1; rw [if_pos rfl, h.2.1 _ (by omega)]; congr 1; omega
    · rw [if_neg (by omega)]; exact h.2.2.1 t (by omega)
  · obtain rfl : t = 0 := by omega
    rw [g, if_pos (by omega)]
    exact h.2.2.2 0 (by omega)
/-- One element goes one place back. -/
theorem Rotated.back {k n : Nat} {d e : Array α} (h : Rotated (k + 1) n 1 d e) (hb : k + n + 1 < d.size) : Rotated k (n + 1) 1 d (swp e (k + 1) k) := by
  have hs := h.1
  have g := swp_at e (i := k + 1) (j := k) (by omega) (by omega)
  refine ⟨by simpa [swp] using hs, fun i hi => ?_, fun t ht => ?_, fun t ht => ?_⟩
  · rw [g, if_neg (by omega), if_neg (by omega)]; exact h.2.1 i (by omega)
  · obtain rfl : t = 0 := by omega
    rw [g, if_pos (by omega)]
    have := h.2.2.1 0 (by omega)
    rw [Nat.add_zero] at this
    rw [this]; congr 1; omega
  · rw [g, if_neg (by omega)]
    by_cases e1 : t = 0
    · subst e1; rw [if_pos (by omega), h.2.1 _ (by omega)]; congr 1
    · rw [if_neg (by omega)]
      have := h.2.2.2 (t - 1) (by omega)
      rw [show k + 1 + 1 + (t - 1) = k + 1 + t by omega] at this
      rw [this]; congr 1; omega

/-- m - a = 1. -/
theorem one_left (hS : SWO lt) {a n b : Nat} {d d' : Array α} (h : Rotated a 1 n d d') (hb : a + 1 + n ≤ b) (hV : SortedIn lt (a + 1) b d)
    (h1 : ∀ t, a + 1 ≤ t → t < a + 1 + n → lt d[t]! d[a]! = true) (h2 : ∀ t, a + 1 + n ≤ t → t < b → lt d[t]! d[a]! = false) :
    StbIn lt a (b - a) d d' ∧ SortedIn lt a b d' := by
  have st : StbIn lt a (1 + n) d d' := h.stb fun t ht s hs => by
    obtain rfl : t = 0 := by omega
    exact h1 _ (by omega) (by omega)
  refine ⟨st.wide _ _ (Nat.le_refl _) (by omega), fun p q hp hpq hq => ?_⟩
  have at1 : ∀ i, a ≤ i → i < a + n → d'[i]! = d[i + 1]! := fun i hi hj => by
    have := h.2.2.1 (i - a) (by omega)
    rw [show a + (i - a) = i by omega, show a + 1 + (i - a) = i + 1 by omega] at this
    exact this
  have at2 : d'[a + n]! = d[a]! := h.2.2.2 0 (by omega)
  have at3 : ∀ i, a + n < i → d'[i]! = d[i]! := fun i hi => h.2.1 i (by omega)
  rcases Nat.lt_trichotomy q (a + n) with hqn | rfl | hqn
  · rw [at1 q (by omega) hqn, at1 p hp (by omega)]; exact hV _ _ (by omega) (by omega) (by omega)
  · rw [at2, at1 p hp (by omega)]; exact lt_asym hS (h1 _ (by omega) (by omega))
  · rw [at3 q hqn]
    rcases Nat.lt_trichotomy p (a + n) with hpn | rfl | hpn
    · rw [at1 p hp hpn]; exact hV _ _ (by omega) (by omega) (by omega)
    · rw [at2]; exact h2 _ (by omega) (by omega)
    · rw [at3 p hpn]; exact hV _ _ (by omega) (by omega) (by omega)
/-- b - m = 1. -/
theorem one_right (hS : SWO lt) {a n i : Nat} {d d' : Array α} (h : Rotated i n 1 d d') (ha : a ≤ i) (hU : SortedIn lt a (i + n) d)
    (h1 : ∀ t, a ≤ t → t < i → lt d[i + n]! d[t]! = false) (h2 : ∀ t, i ≤ t → t < i + n → lt d[i + n]! d[t]! = true) :
    StbIn lt a (i + n + 1 - a) d d' ∧ SortedIn lt a (i + n + 1) d' := by
  have st : StbIn lt i (n + 1) d d' := h.stb fun t ht s hs => by
    obtain rfl : s = 0 := by omega
    exact h2 _ (by omega) (by omega)
  refine ⟨st.wide _ _ ha (by omega), fun p q hp hpq hq => ?_⟩
  have at1 : ∀ t, i + 1 ≤ t → t < i + 1 + n → d'[t]! = d[t - 1]! := fun t hi hj => by
    have := h.2.2.2 (t - (i + 1)) (by omega)
    rw [show i + 1 + (t - (i + 1)) = t by omega, show i + (t - (i + 1)) = t - 1 by omega] at this
    exact this
  have at2 : d'[i]! = d[i + n]! := h.2.2.1 0 (by omega)
  have at3 : ∀ t, t < i → d'[t]! = d[t]! := fun t hi => h.2.1 t (by omega)
  rcases Nat.lt_trichotomy p i with hpn | rfl | hpn
  · rw [at3 p hpn]
    rcases Nat.lt_trichotomy q i with hqn | rfl | hqn
    · rw [at3 q hqn]; exact hU _ _ hp hpq (by omega)
    · rw [at2]; exact h1 _ hp hpn
    · rw [at1 q (by omega) (by omega)]; exact hU _ _ hp (by omega) (by omega)
  · rw [at2, at1 q (by omega) (by omega)]; exact lt_asym hS (h2 _ (by omega) (by omega))
  · rw [at1 p (by omega) (by omega), at1 q (by omega) (by omega)]; exact hU _ _ (by omega) (by omega) (by omega)

/-- What the general search finds, in the array's own order. -/
theorem find_low (hS : SWO lt) {a m b p c : Nat} {d : Array α} (hU : SortedIn lt a m d) (hV : SortedIn lt m b d) (hac : a ≤ c) (hcm : c < m) (hpm : m + c ≤ p) (s0 : Nat) (hs0 : a ≤ s0) (hp0 : p < b + s0)
    (h : lt d[p - c]! d[c]! = false) : ∀ t, s0 ≤ t → t < c + 1 → lt d[p - t]! d[t]! = false := by
  intro t h1 h2
  by_cases e : t = c
  · subst e; exact h
  · have k1 := hU t c (by omega) (by omega) hcm
    have k2 := hV (p - c) (p - t) (by omega) (by omega) (by omega)
    exact hS.ntrans _ _ _ (hS.ntrans _ _ _ k2 h) k1
theorem find_high (hS : SWO lt) {a m b p c : Nat} {d : Array α} (hU : SortedIn lt a m d) (hV : SortedIn lt m b d) (hac : a ≤ c) (hpb : p < b + c) (r0 : Nat) (hr0 : r0 ≤ m) (hp0 : m + r0 ≤ p + 1)
    (h : lt d[p - c]! d[c]! = true) : ∀ t, c ≤ t → t < r0 → lt d[p - t]! d[t]! = true := by
  intro t h1 h2
  by_cases e : t = c
  · subst e; exact h
  · have k1 := hU c t (by omega) (by omega) (by omega)
    have k2 := hV (p - t) (p - c) (by omega) (by omega) (by omega)
    exact lt_up hS (lt_down hS h k2) k1

/-- The parts behind the rotation. -/
theorem gen_rot (hS : SWO lt) {a m b s mid e : Nat} {d d1 : Array α} (h : Rotated s (m - s) (e - m) d d1) (hU : SortedIn lt a m d) (hV : SortedIn lt m b d) (has : a ≤ s) (hsm : s ≤ m) (hme : m ≤ e) (heb : e ≤ b) (he : e + s = mid + m)
    (c1 : ∀ p, a ≤ p → p < s → ∀ q, e ≤ q → q < b → lt d[q]! d[p]! = false) (c2 : ∀ p, s ≤ p → p < m → ∀ q, m ≤ q → q < e → lt d[q]! d[p]! = true) :
    StbIn lt a (b - a) d d1 ∧ SortedIn lt a s d1 ∧ SortedIn lt s mid d1 ∧ SortedIn lt mid e d1 ∧ SortedIn lt e b d1 ∧ ∀ p q, a ≤ p → p < mid → mid ≤ q → q < b → lt d1[q]! d1[p]! = false := by
  have st : StbIn lt s (m - s + (e - m)) d d1 := h.stb fun t ht u hu => c2 _ (by omega) (by omega) _ (by omega) (by omega)
  have x1 : ∀ i, i < s → d1[i]! = d[i]! := fun i hi => h.2.1 i (by omega)
  have x2 : ∀ i, s ≤ i → i < mid → d1[i]! = d[i + (m - s)]! := fun i hi hj => by
    have := h.2.2.1 (i - s) (by omega)
    rw [show s + (i - s) = i by omega, show s + (m - s) + (i - s) = i + (m - s) by omega] at this
    exact this
  have x3 : ∀ i, mid ≤ i → i < e → d1[i]! = d[i - (e - m)]! := fun i hi hj => by
    have := h.2.2.2 (i - mid) (by omega)
    rw [show s + (e - m) + (i - mid) = i by omega, show s + (i - mid) = i - (e - m) by omega] at this
    exact this
  have x4 : ∀ i, e ≤ i → d1[i]! = d[i]! := fun i hi => h.2.1 i (by omega)
  refine ⟨st.wide _ _ has (by omega), fun p q h1 h2 h3 => ?_, fun p q h1 h2 h3 => ?_, fun p q h1 h2 h3 => ?_, fun p q h1 h2 h3 => ?_, fun p q h1 h2 h3 h4 => ?_⟩
  · rw [x1 p (by omega), x1 q (by omega)]; exact hU _ _ h1 h2 (by omega)
  · rw [x2 p (by omega) (by omega), x2 q (by omega) (by omega)]; exact hV _ _ (by omega) (by omega) (by omega)
  · rw [x3 p (by omega) (by omega), x3 q (by omega) (by omega)]; exact hU _ _ (by omega) (by omega) (by omega)
  · rw [x4 p (by omega), x4 q (by omega)]; exact hV _ _ (by omega) (by omega) (by omega)
  · by_cases hp : p < s
    · rw [x1 p hp]
      by_cases hq : q < e
      · rw [x3 q h3 hq]; exact hU _ _ h1 (by omega) (by omega)
      · rw [x4 q (by omega)]; exact c1 _ h1 hp _ (by omega) h4
    · rw [x2 p (by omega) h2]
      by_cases hq : q < e
      · rw [x3 q h3 hq]; exact lt_asym hS (c2 _ (by omega) (by omega) _ (by omega) (by omega))
      · rw [x4 q (by omega)]; exact hV _ _ (by omega) (by omega) h4
/-- Both sides merged. -/
theorem gen_done (hS : SWO lt) {a b mid : Nat} {d1 d2 d3 : Array α} (ha : a ≤ mid) (hb : mid ≤ b) (hX : ∀ p q, a ≤ p → p < mid → mid ≤ q → q < b → lt d1[q]! d1[p]! = false)
    (h1 : StbIn lt a (mid - a) d1 d2) (s1 : SortedIn lt a mid d2) (h2 : StbIn lt mid (b - mid) d2 d3) (s2 : SortedIn lt mid b d3) : StbIn lt a (b - a) d1 d3 ∧ SortedIn lt a b d3 := by
  refine ⟨(h1.wide _ _ (Nat.le_refl _) (by omega)).trans (h2.wide _ _ ha (by omega)), fun p q hp hpq hq => ?_⟩
  by_cases hq1 : q < mid
  · rw [h2.2.1 p (by omega), h2.2.1 q (by omega)]; exact s1 p q hp hpq hq1
  · by_cases hp1 : p < mid
    · rw [h2.2.1 p (by omega)]
      refine h2.all hS (fun y => lt y d2[p]! = false) (fun i hi hj => ?_) q (by omega) (by omega)
      rw [h1.2.1 i (by omega)]
      exact h1.all hS (fun x => lt d1[i]! x = false) (fun t ht hu => hX t i ht (by omega) hi (by omega)) p hp (by omega)
    · exact s2 p q (by omega) hpq hq
/-- What the general search's end says of the four parts. -/
theorem gen_cut (hS : SWO lt) {a m b s s0 r0 mid p : Nat} {d : Array α} (hU : SortedIn lt a m d) (hV : SortedIn lt m b d) (hp : p + 1 = mid + m) (h0 : s0 ≤ s) (hr : s ≤ r0) (hs0 : a ≤ s0) (hr0 : r0 ≤ m)
    (hc : (s0 + b = mid + m ∧ r0 = mid ∧ mid < m) ∨ (s0 = a ∧ r0 = m ∧ m ≤ mid ∧ mid + m ≤ a + b))
    (low : ∀ t, s0 ≤ t → t < s → lt d[p - t]! d[t]! = false) (high : ∀ t, s ≤ t → t < r0 → lt d[p - t]! d[t]! = true) :
    (∀ x, a ≤ x → x < s → ∀ y, mid + m - s ≤ y → y < b → lt d[y]! d[x]! = false) ∧ ∀ x, s ≤ x → x < m → ∀ y, m ≤ y → y < mid + m - s → lt d[y]! d[x]! = true := by
  constructor
  · intro x h1 h2 y h3 h4
    have hlt : s0 < s := by omega
    have k := low (s - 1) (by omega) (by omega)
    rw [show p - (s - 1) = mid + m - s by omega] at k
    have k1 : lt d[s - 1]! d[x]! = false := by
      by_cases e : x = s - 1
      · subst e; exact hS.irrefl _
      · exact hU _ _ h1 (by omega) (by omega)
    have k2 : lt d[y]! d[mid + m - s]! = false := by
      by_cases e : y = mid + m - s
      · subst e; exact hS.irrefl _
      · exact hV _ _ (by omega) (by omega) h4
    exact hS.ntrans _ _ _ (hS.ntrans _ _ _ k2 k) k1
  · intro x h1 h2 y h3 h4
    have hlt : s < r0 := by omega
    have k := high s (Nat.le_refl _) hlt
    have k1 : lt d[x]! d[s]! = false := by
      by_cases e : x = s
      · subst e; exact hS.irrefl _
      · exact hU _ _ (by omega) (by omega) h2
    have k2 : lt d[p - s]! d[y]! = false := by
      by_cases e : y = p - s
      · subst e; exact hS.irrefl _
      · exact hV _ _ h3 (by omega) (by omega)
    exact lt_up hS (lt_down hS k k2) k1
end
end Go.Proofs.Ytbfhlleipeipbaa
