/-
  What is proved: what the document's With lays, place after place, is what value's With answers (putL). Conditions: those in each statement.
-/
import Derived.Test.YtnmailhlncchmaaDoorXdv
import Derived.Test.YtnmailhlncchmaaDoorXh
namespace Go.Proofs.YtnmailhlncchmaaDoor
open Go.RowKit

/-- the document's loop, from what is made and whether it is laid -/
def goW (t : ByteArray) (v : Val) : Bool → List Vr → List Vr → List Vr
  | laid, out, [] => if laid then out else out ++ [⟨t, v⟩]
  | laid, out, x :: r =>
    let g := !laid && !(bl x.nm t)
    let o1 := if g then out ++ [⟨t, v⟩] else out
    goW t v (laid || g) (if x.nm.toList == t.toList then o1 else o1 ++ [x]) r
theorem nm_same {a t : ByteArray} : (a.toList == t.toList) = true ↔ a = t := by
  constructor
  · intro h
    have e := eq_of_beq h
    rw [ByteArray.toList_eq, ByteArray.toList_eq] at e
    exact ba_ext e
  · rintro rfl
    simp
theorem nm_other {a t : ByteArray} (h : a ≠ t) : (a.toList == t.toList) = false := by
  cases hb : (a.toList == t.toList) with
  | false => rfl
  | true => exact absurd (nm_same.1 hb) h
theorem goW_laid (t : ByteArray) (v : Val) : ∀ (r out : List Vr), (∀ y ∈ r, y.nm ≠ t) → goW t v true out r = out ++ r
  | [], out, _ => by simp [goW]
  | x :: r, out, h => by
    unfold goW
    rw [nm_other (h x (by simp))]
    simp only [Bool.not_true, Bool.false_and, Bool.true_or, if_neg Bool.false_ne_true]
    rw [goW_laid t v r _ (fun y hy => h y (by simp [hy]))]
    simp
theorem goW_put (t : ByteArray) (v : Val) : ∀ (l out : List Vr) (p : Nat), l.Pairwise (fun x y => bl x.nm y.nm = true) → Spot l t p → goW t v false out l = out ++ putL l p t v
  | [], out, p, _, h => by
    obtain rfl : p = 0 := by have := h.1; simpa using this
    simp [goW, putL, foundB]
  | x :: r, out, 0, hp, h => by
    have hx : bl x.nm t = false := h.2.2 0 (by simp) (Nat.le_refl _)
    have hne : ∀ y ∈ r, y.nm ≠ t := fun y hy e => by
      have := (List.pairwise_cons.1 hp).1 y hy
      rw [e, hx] at this; cases this
    unfold goW
    rw [hx]
    simp only [Bool.not_false, Bool.true_and, Bool.false_or, if_true]
    by_cases he : x.nm = t
    · rw [nm_same.2 he, if_pos rfl, goW_laid t v r _ hne]
      simp [putL, foundB, he]
    · rw [nm_other he, if_neg Bool.false_ne_true, goW_laid t v r _ hne]
      simp [putL, foundB, he]
  | x :: r, out, p + 1, hp, h => by
    have hx : bl x.nm t = true := h.2.1 0 (by simp) (by omega)
    have he : x.nm ≠ t := fun e => by rw [e, bl_irr] at hx; cases hx
    have hs : Spot r t p := ⟨by have := h.1; simpa using this, fun i hi hq => h.2.1 (i + 1) (by simpa using hi) (by omega), fun i hi hq => h.2.2 (i + 1) (by simpa using hi) (by omega)⟩
    unfold goW
    rw [hx, nm_other he]
    simp only [Bool.not_true, Bool.and_false, Bool.or_false, if_neg Bool.false_ne_true]
    rw [goW_put t v r _ p (List.pairwise_cons.1 hp).2 hs]
    have hf : foundB (x :: r) t (p + 1) = foundB r t p := rfl
    unfold putL
    rw [hf]
    cases foundB r t p <;> simp
/-- what With answers is one list -/
theorem withIs_one {l : List Vr} {t : ByteArray} {v : Val} {r r2 : List Vr} (h : WithIs l t v r) (k : WithIs l t v r2) : r = r2 := by
  rcases h with ⟨a, rfl⟩ | ⟨a, p, hp, rfl⟩ <;> rcases k with ⟨b, rfl⟩ | ⟨b, q, hq, rfl⟩
  · rfl
  · rw [a] at b; cases b
  · rw [a] at b; cases b
  · rw [spot_one hp hq]
end Go.Proofs.YtnmailhlncchmaaDoor
