/-
  What is proved: plain facts on frames as lists of bytes. No condition but those in each statement.
-/
import Derived.Test.YtbfhlleipeipbaaSums
namespace Go.Proofs.Ytbfhlleipeipbaa

def frameOf (b : List UInt8) : List UInt8 := dig (b.length : Int) ++ dig ((crc b : Nat) : Int) ++ b
theorem frameOf_length (b : List UInt8) : (frameOf b).length = 16 + b.length := by
  simp only [frameOf, List.length_append, dig_length]
/-- the length and the sum that bytes begin with, and the bytes that the length tells -/
def lenOf (l : List UInt8) : Int := rd (l.take 8)
def sumOf (l : List UInt8) : Int := rd ((l.drop 8).take 8)
def bodyOf (l : List UInt8) : List UInt8 := (l.drop 16).take (lenOf l).toNat
def badLen (l : List UInt8) : Prop := l.length < 16 ∨ lenOf l < 0 ∨ (l.length : Int) - 16 < lenOf l
instance (l : List UInt8) : Decidable (badLen l) := inferInstanceAs (Decidable (_ ∨ _))
def firstOf (l : List UInt8) : Option (List UInt8) :=
  if badLen l then none else if sumOf l = ((crc (bodyOf l) : Nat) : Int) then some (bodyOf l) else none
theorem bodyOf_length {l : List UInt8} (h : ¬ badLen l) : ((bodyOf l).length : Int) = lenOf l ∧ 16 + (bodyOf l).length ≤ l.length := by
  unfold badLen at h
  simp only [bodyOf, List.length_take, List.length_drop]
  omega
theorem firstOf_some {l f : List UInt8} (h : firstOf l = some f) : ¬ badLen l ∧ f = bodyOf l ∧ sumOf l = ((crc (bodyOf l) : Nat) : Int) := by
  unfold firstOf at h
  split at h
  · cases h
  · rename_i hb
    split at h
    · rename_i hs
      injection h with h
      exact ⟨hb, h.symm, hs⟩
    · cases h
theorem firstOf_frame (b r : List UInt8) (hb : b.length ≤ 1099511627776) : firstOf (frameOf b ++ r) = some b := by
  have hc := crc_lt b
  have e1 : (frameOf b ++ r).take 8 = dig (b.length : Int) := by
    simp only [frameOf, List.append_assoc]
    rw [List.take_append_of_le_length (by rw [dig_length]; omega), List.take_of_length_le (by rw [dig_length]; omega)]
  have e2 : (frameOf b ++ r).drop 8 = dig ((crc b : Nat) : Int) ++ (b ++ r) := by
    simp only [frameOf, List.append_assoc]
    rw [List.drop_append_of_le_length (by rw [dig_length]; omega), List.drop_of_length_le (by rw [dig_length]; omega), List.nil_append]
  have e3 : (frameOf b ++ r).drop 16 = b ++ r := by
    have : (frameOf b ++ r).drop 16 = ((frameOf b ++ r).drop 8).drop 8 := by rw [List.drop_drop]
    rw [this, e2, List.drop_append_of_le_length (by rw [dig_length]; omega), List.drop_of_length_le (by rw [dig_length]; omega), List.nil_append]
  have l1 : lenOf (frameOf b ++ r) = b.length := by
    unfold lenOf; rw [e1, rd_dig _ (by omega) (by omega)]
  have l2 : sumOf (frameOf b ++ r) = ((crc b : Nat) : Int) := by
    unfold sumOf; rw [e2, List.take_append_of_le_length (by rw [dig_length]; omega), List.take_of_length_le (by rw [dig_length]; omega), rd_dig _ (by omega) (by omega)]
  have l3 : bodyOf (frameOf b ++ r) = b := by
    unfold bodyOf; rw [e3, l1, Int.toNat_natCast, List.take_append_of_le_length (Nat.le_refl _), List.take_length]
  have l4 : ¬ badLen (frameOf b ++ r) := by
    unfold badLen
    rw [l1, List.length_append, frameOf_length]
    omega
  unfold firstOf
  rw [if_neg l4, l2, l3, if_pos rfl]

def splitN : Nat → List UInt8 → Option (List (List UInt8))
  | 0, _ => some []
  | n + 1, l => if l = [] then some [] else match firstOf l with
    | none => none
    | some f => (splitN n (l.drop (16 + f.length))).map (f :: ·)
def splitOf (l : List UInt8) : Option (List (List UInt8)) := splitN l.length l
theorem splitN_more : ∀ (n : Nat) (l : List UInt8), l.length ≤ n → splitN n l = splitN l.length l
  | 0, l, h => by
    have : l = [] := List.eq_nil_of_length_eq_zero (by omega)
    subst this; rfl
  | n + 1, [], _ => rfl
  | n + 1, b :: l, h => by
    simp only [splitN, List.length_cons, List.cons_ne_nil, if_false]
    cases hf : firstOf (b :: l) with
    | none => rfl
    | some f =>
      simp only
      have h1 : ((b :: l).drop (16 + f.length)).length ≤ l.length := by simp only [List.length_drop, List.length_cons]; omega
      simp only [List.length_cons] at h
      rw [splitN_more n _ (by omega), splitN_more l.length _ h1]
theorem splitOf_nil : splitOf [] = some [] := rfl
theorem splitOf_none {l : List UInt8} (h0 : l ≠ []) (h : firstOf l = none) : splitOf l = none := by
  unfold splitOf
  cases l with
  | nil => exact absurd rfl h0
  | cons b l => simp only [List.length_cons, splitN, List.cons_ne_nil, if_false, h]
theorem splitOf_some {l f : List UInt8} (h0 : l ≠ []) (h : firstOf l = some f) : splitOf l = (splitOf (l.drop (16 + f.length))).map (f :: ·) := by
  unfold splitOf
  cases l with
  | nil => exact absurd rfl h0
  | cons b l =>
    simp only [List.length_cons, splitN, List.cons_ne_nil, if_false, h]
    rw [splitN_more l.length _ (by simp only [List.length_drop, List.length_cons]; omega)]
/-- the rest of what is read, behind what has been read -/
theorem split_on {l r : List UInt8} {fs : List (List UInt8)} {f : List UInt8} (h : splitOf l = (splitOf r).map (fs ++ ·)) (h0 : r ≠ []) (hf : firstOf r = some f) : splitOf l = (splitOf (r.drop (16 + f.length))).map ((fs ++ [f]) ++ ·) := by
  rw [h, splitOf_some h0 hf, Option.map_map]
  congr 1
  funext x
  simp
theorem frameOf_ne (b r : List UInt8) : frameOf b ++ r ≠ [] := by
  intro h
  have := congrArg List.length h
  simp [frameOf_length] at this
theorem splitOf_frame (b r : List UInt8) (hb : b.length ≤ 1099511627776) : splitOf (frameOf b ++ r) = (splitOf r).map (b :: ·) := by
  rw [splitOf_some (frameOf_ne b r) (firstOf_frame b r hb)]
  congr 2
  rw [List.drop_append_of_le_length (by rw [frameOf_length]; omega), List.drop_of_length_le (by rw [frameOf_length]; omega), List.nil_append]
def framesOf (fs : List (List UInt8)) : List UInt8 := (fs.map frameOf).flatten
theorem framesOf_snoc (fs : List (List UInt8)) (b : List UInt8) : framesOf (fs ++ [b]) = framesOf fs ++ frameOf b := by simp [framesOf]
theorem framesOf_cons (fs : List (List UInt8)) (b : List UInt8) : framesOf (b :: fs) = frameOf b ++ framesOf fs := by simp [framesOf]
theorem splitOf_frames_more : ∀ (fs : List (List UInt8)) (r : List UInt8), (∀ b ∈ fs, b.length ≤ 1099511627776) → splitOf (framesOf fs ++ r) = (splitOf r).map (fs ++ ·)
  | [], r, _ => by
    have : framesOf ([] : List (List UInt8)) = [] := rfl
    rw [this, List.nil_append]
    cases splitOf r <;> rfl
  | b :: fs, r, h => by
    rw [framesOf_cons, List.append_assoc, splitOf_frame b _ (h b (by simp)), splitOf_frames_more fs r (fun x hx => h x (by simp [hx])), Option.map_map]
    rfl
theorem splitOf_frames (fs : List (List UInt8)) (h : ∀ b ∈ fs, b.length ≤ 1099511627776) : splitOf (framesOf fs) = some fs := by
  have := splitOf_frames_more fs [] h
  simpa [splitOf_nil] using this
end Go.Proofs.Ytbfhlleipeipbaa
