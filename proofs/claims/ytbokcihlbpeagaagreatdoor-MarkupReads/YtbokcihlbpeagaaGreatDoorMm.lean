/-
  What is proved: plain mathematics of markup: what a document's bytes are read as (functions on lists of bytes). Conditions: those in each statement.
-/
import Derived.Test.YtbokcihlbpeagaaGreatDoorUm
import Derived.Test.YtbokcihlbpeagaaGreatDoorUa
namespace Go.Proofs.YtbokcihlbpeagaaGreatDoor

/-- what reading a piece gives: something and how many bytes it took; a fault, so far behind; or that it is not ended -/
inductive Out (α : Type) where
  | ok (a : α) (n : Nat)
  | bad (d : Nat) (c : Int)
  | un
def Out.on {α : Type} (o : Nat) : Out α → Out α
  | .ok a n => .ok a (n + o)
  | .bad d c => .bad (d + o) c
  | .un => .un
def Out.map {α β : Type} (f : α → β) : Out α → Out β
  | .ok a n => .ok (f a) n
  | .bad d c => .bad d c
  | .un => .un
/-- the byte that is next; 0 at the end -/
def hd (l : List UInt8) : Nat := (l.headD 0).toNat
def isW (c : Nat) : Bool := c == 32 || c == 9 || c == 13 || c == 10
/-- how many white bytes there are -/
def wh : List UInt8 → Nat
  | [] => 0
  | b :: t => if isW b.toNat then wh t + 1 else 0
theorem wh_le (l : List UInt8) : wh l ≤ l.length := by
  induction l with
  | nil => simp [wh]
  | cons b t ih => simp only [wh]; split <;> simp <;> omega
theorem wh_hd {l : List UInt8} (h : isW (hd l) = true) : wh l = wh (l.drop 1) + 1 := by
  cases l with
  | nil => exact absurd h (by decide)
  | cons b t =>
    have : isW b.toNat = true := h
    simp [wh, this]
theorem wh_no {l : List UInt8} (h : isW (hd l) = false) : wh l = 0 := by
  cases l with
  | nil => rfl
  | cons b t =>
    have : isW b.toNat = false := h
    simp [wh, this]
theorem hd_ne {l : List UInt8} (h : hd l ≠ 0) : 0 < l.length := by
  cases l with
  | nil => exact absurd rfl h
  | cons b t => simp
theorem isW_pos {l : List UInt8} (h : isW (hd l) = true) : 0 < l.length := by
  cases l with
  | nil => exact absurd h (by decide)
  | cons b t => simp
/-- what can't stand here -/
def wrongO {α : Type} (l : List UInt8) : Out α := if l = [] then .un else .bad 0 82
/-- may a rune stand in a name: first, or behind -/
def fits (first : Bool) (r : Int) : Bool := r == 58 || (if first then decide (isL r) else decide (isN r))
/-- how many bytes a name has -/
def nmF : Nat → Bool → List UInt8 → Nat
  | 0, _, _ => 0
  | fuel + 1, first, l => if fits first (nx l).1 then (nx l).2 + nmF fuel false (l.drop (nx l).2) else 0
def nm (l : List UInt8) : Nat := nmF (l.length + 1) true l
theorem fits_zero (first : Bool) : fits first 0 = false := by cases first <;> decide
theorem nx_pos {l : List UInt8} {first : Bool} (h : fits first (nx l).1 = true) : 1 ≤ (nx l).2 ∧ (nx l).2 ≤ l.length := by
  rcases nx_read l with h0 | ⟨r, hr, he, hp, hl⟩
  · rw [h0] at h
    rw [fits_zero] at h
    exact absurd h (by decide)
  · rw [he]
    have := sz_pos hr
    exact ⟨this.1, hl⟩
theorem nmF_more (m : Nat) : ∀ (n : Nat) (first : Bool) (l : List UInt8), l.length < m → l.length < n → nmF m first l = nmF n first l := by
  induction m with
  | zero => intro n first l h; omega
  | succ m ih =>
    intro n first l hm hn
    cases n with
    | zero => omega
    | succ n =>
      simp only [nmF]
      by_cases h : fits first (nx l).1 = true
      · rw [if_pos h, if_pos h]
        have := nx_pos h
        rw [ih n false _ (by rw [List.length_drop]; omega) (by rw [List.length_drop]; omega)]
      · rw [if_neg h, if_neg h]
/-- a name's bytes behind the first rune -/
def nmR (l : List UInt8) : Nat := nmF (l.length + 1) false l
theorem nm_on {l : List UInt8} (h : fits true (nx l).1 = true) : nm l = (nx l).2 + nmR (l.drop (nx l).2) := by
  have := nx_pos h
  unfold nm nmR
  rw [nmF, if_pos h, nmF_more _ ((l.drop (nx l).2).length + 1) false _ (by rw [List.length_drop]; omega) (by omega)]
theorem nm_no {l : List UInt8} (h : ¬ fits true (nx l).1 = true) : nm l = 0 := by
  unfold nm
  rw [nmF, if_neg h]
theorem nmR_on {l : List UInt8} (h : fits false (nx l).1 = true) : nmR l = (nx l).2 + nmR (l.drop (nx l).2) := by
  have := nx_pos h
  unfold nmR
  rw [nmF, if_pos h, nmF_more _ ((l.drop (nx l).2).length + 1) false _ (by rw [List.length_drop]; omega) (by omega)]
theorem nmR_no {l : List UInt8} (h : ¬ fits false (nx l).1 = true) : nmR l = 0 := by
  unfold nmR
  rw [nmF, if_neg h]
theorem nmF_le (m : Nat) : ∀ (first : Bool) (l : List UInt8), nmF m first l ≤ l.length := by
  induction m with
  | zero => intro first l; simp [nmF]
  | succ m ih =>
    intro first l
    simp only [nmF]
    by_cases h : fits first (nx l).1 = true
    · rw [if_pos h]
      have h1 := nx_pos h
      have h2 := ih false (l.drop (nx l).2)
      rw [List.length_drop] at h2
      omega
    · rw [if_neg h]; omega
theorem nm_le (l : List UInt8) : nm l ≤ l.length := nmF_le _ _ _
theorem nmR_le (l : List UInt8) : nmR l ≤ l.length := nmF_le _ _ _
end Go.Proofs.YtbokcihlbpeagaaGreatDoor
