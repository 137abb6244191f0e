/-
  What is proved: plain mathematics of markup: a comment ahead of a document moves what is read by its length, and changes nothing else. Conditions: those in each statement.
-/
import Derived.Test.YtbokcihlbpeagaaDoorFn
namespace Go.Proofs.YtbokcihlbpeagaaDoor

/-! ### what is read, moved -/
def At3.mv (o : Nat) (a : At3) : At3 := { a with at_ := a.at_ + o }
def Mk.mv (o : Nat) (m : Mk) : Mk := { m with attrs := m.attrs.map (At3.mv o), at_ := m.at_ + o }
section
variable {α β : Type}
theorem Out.map_map {γ : Type} (f : α → β) (g : β → γ) (o : Out α) : (o.map f).map g = o.map (g ∘ f) := by cases o <;> rfl
theorem Out.on_map (f : α → β) (n : Nat) (o : Out α) : (o.on n).map f = (o.map f).on n := by cases o <;> rfl
theorem Out.fin_map (f : α → β) (o : Out α) : o.fin.map f = (o.map f).fin := by cases o <;> rfl
theorem wrongO_map (f : α → β) (l : List UInt8) : (wrongO l : Out α).map f = wrongO l := by unfold wrongO; split <;> rfl
theorem Out.seq_map {γ : Type} (f : β → γ) (o : Out α) (l : List UInt8) (g : α → Nat → List UInt8 → Out β) : (o.seq l g).map f = o.seq l (fun a n l => (g a n l).map f) := by
  cases o with
  | ok a n => exact Out.on_map f n _
  | bad d c => rfl
  | un => rfl
theorem Out.pres_map (f : α → β) (zs : List α) (m : Nat) (o : Out (List α)) : (o.pres zs m).map (List.map f) = (o.map (List.map f)).pres (zs.map f) m := by
  cases o <;> simp [Out.pres, Out.map]
theorem loop_mv {stop : List UInt8 → Bool} {step : Nat → List UInt8 → Out α} {f : α → α} {o : Nat} (G : Good stop step) (H : ∀ k l, step (k + o) l = (step k l).map f) :
    ∀ (n : Nat) (l : List UInt8), l.length = n → ∀ k, loop stop step (k + o) l = (loop stop step k l).map (List.map f) := by
  intro n
  induction n using Nat.strongRecOn with
  | ind n ih =>
    intro l hn k
    by_cases hs : stop l = true
    · rw [loop_stop _ hs, loop_stop _ hs]; rfl
    · have hf : stop l = false := by simpa using hs
      cases hq : step k l with
      | ok a j =>
        have hg := G k l a j hf hq
        have h2 : step (k + o) l = .ok (f a) j := by rw [H, hq]; rfl
        rw [loop_ok G hf h2, loop_ok G hf hq, Out.pres_map, show k + o + j = k + j + o by omega, ih _ (by rw [List.length_drop]; omega) (l.drop j) rfl]
        rfl
      | bad d c => rw [loop_bad hf hq, loop_bad hf (d := d) (c := c) (by rw [H, hq]; rfl)]; rfl
      | un => rw [loop_un hf hq, loop_un hf (by rw [H, hq]; rfl)]; rfl
end
theorem attrO_mv (o k : Nat) (l : List UInt8) : attrO (k + o) l = (attrO k l).map (At3.mv o) := by
  unfold attrO
  simp only [Out.seq_map, Out.map_map]
  rfl
theorem stepA_mv (o k : Nat) (l : List UInt8) : stepA (k + o) l = (stepA k l).map (At3.mv o) := by
  unfold stepA
  split
  · exact (wrongO_map _ _).symm
  · rw [Out.on_map, show k + o + wh l = k + wh l + o by omega, attrO_mv]
theorem startO_mv (o f k : Nat) (l : List UInt8) : startO (f + o) (k + o) l = (startO f k l).map (Mk.mv o) := by
  unfold startO
  rw [Out.seq_map]
  congr 1
  funext a n l1
  rw [Out.seq_map, show k + o + n = k + n + o by omega, loop_mv goodA (fun k l => stepA_mv o k l) _ l1 rfl]
  cases loop stopA stepA (k + n) l1 with
  | ok zs i =>
    simp only [Out.map, Out.seq]
    cases tailO (l1.drop i) <;> rfl
  | bad d c => rfl
  | un => rfl
theorem endO_mv (o f : Nat) (l : List UInt8) : endO (f + o) l = (endO f l).map (Mk.mv o) := by
  unfold endO
  simp only [Out.seq_map, Out.map_map]
  rfl
theorem stepD_mv (o k : Nat) (l : List UInt8) : stepD (k + o) l = (stepD k l).map (Option.map (Mk.mv o)) := by
  unfold stepD
  split
  · rw [Out.on_map, Out.map_map]; rfl
  · split
    · rw [Out.on_map]
      unfold cdataO
      rw [Out.map_map]
      congr 2
      funext t
      simp only [Function.comp]
      split <;> rfl
    · split
      · rw [Out.on_map, Out.map_map, endO_mv, Out.map_map]; rfl
      · split
        · rw [Out.on_map, Out.map_map, show k + o + 1 = k + 1 + o by omega, startO_mv, Out.map_map]; rfl
        · rw [Out.map_map]; rfl
theorem docO_mv (o k : Nat) (l : List UInt8) : docO (k + o) l = (docO k l).map (List.map (Option.map (Mk.mv o))) := by
  unfold docO
  exact loop_mv goodD (fun k l => by rw [Out.fin_map, stepD_mv]) _ l rfl k

/-! ### the comment -/
def head14 : List UInt8 := [60, 33, 45, 45, 32, 60, 97, 62, 32, 38, 32, 45, 45, 62]
theorem nx_ascii {b : UInt8} (h : b.toNat < 128) (t : List UInt8) : nx (b :: t) = ((b.toNat : Int), 1) := by
  have hr : isR (b.toNat : Int) := by unfold isR; omega
  have hp : put (b.toNat : Int) = [b] := by
    unfold put
    rw [if_pos hr, if_pos (by omega), byteOf_eq rfl]
  have h1 := nx_put hr t
  have h2 : sz (b.toNat : Int) = 1 := by rw [← put_length, hp]; rfl
  rw [hp, h2] at h1
  exact h1
theorem nx_head (l : List UInt8) (j : Nat) (hj : j < 14) : ∃ b : UInt8, nx ((head14 ++ l).drop j) = ((b.toNat : Int), 1) ∧ isC (b.toNat : Int) := by
  have : j = 0 ∨ j = 1 ∨ j = 2 ∨ j = 3 ∨ j = 4 ∨ j = 5 ∨ j = 6 ∨ j = 7 ∨ j = 8 ∨ j = 9 ∨ j = 10 ∨ j = 11 ∨ j = 12 ∨ j = 13 := by omega
  rcases this with rfl | rfl | rfl | rfl | rfl | rfl | rfl | rfl | rfl | rfl | rfl | rfl | rfl | rfl
  · exact ⟨60, nx_ascii (b := 60) (by decide) _, by decide⟩
  · exact ⟨33, nx_ascii (b := 33) (by decide) _, by decide⟩
  · exact ⟨45, nx_ascii (b := 45) (by decide) _, by decide⟩
  · exact ⟨45, nx_ascii (b := 45) (by decide) _, by decide⟩
  · exact ⟨32, nx_ascii (b := 32) (by decide) _, by decide⟩
  · exact ⟨60, nx_ascii (b := 60) (by decide) _, by decide⟩
  · exact ⟨97, nx_ascii (b := 97) (by decide) _, by decide⟩
  · exact ⟨62, nx_ascii (b := 62) (by decide) _, by decide⟩
  · exact ⟨32, nx_ascii (b := 32) (by decide) _, by decide⟩
  · exact ⟨38, nx_ascii (b := 38) (by decide) _, by decide⟩
  · exact ⟨32, nx_ascii (b := 32) (by decide) _, by decide⟩
  · exact ⟨45, nx_ascii (b := 45) (by decide) _, by decide⟩
  · exact ⟨45, nx_ascii (b := 45) (by decide) _, by decide⟩
  · exact ⟨62, nx_ascii (b := 62) (by decide) _, by decide⟩
theorem head_runes (l : List UInt8) : ∀ j, j ≤ 14 → badAt (head14 ++ l) 0 = badAt (head14 ++ l) j := by
  intro j
  induction j with
  | zero => intro _; rfl
  | succ j ih =>
    intro hj
    rw [ih (by omega)]
    obtain ⟨b, h1, _⟩ := nx_head l j (by omega)
    rw [badAt_on (by rw [List.length_append]; simp [head14]; omega) (by rw [h1]; simp), h1]
theorem badAt_mv (p l : List UInt8) : ∀ (n k : Nat), l.length - k = n → badAt (p ++ l) (p.length + k) = if badAt l k = -1 then -1 else badAt l k + p.length := by
  intro n
  induction n using Nat.strongRecOn with
  | ind n ih =>
    intro k hn
    have e : (p ++ l).drop (p.length + k) = l.drop k := by rw [← List.drop_drop, List.drop_left]
    by_cases hk : k < l.length
    · by_cases h0 : (nx (l.drop k)).2 = 0
      · rw [badAt_here (by rw [List.length_append]; omega) (by rw [e]; exact h0), badAt_here hk h0, if_neg (by omega)]
        omega
      · rw [badAt_on (by rw [List.length_append]; omega) (by rw [e]; exact h0), badAt_on hk h0, e, Nat.add_assoc, ih (l.length - (k + (nx (l.drop k)).2)) (by omega) _ rfl]
    · rw [badAt_end (by rw [List.length_append]; omega), badAt_end (by omega), if_pos rfl]
theorem chO_mv : ∀ (n : Nat) (l : List UInt8), l.length = n → ∀ q o, chO l (q + o) = (chO l q).map (· + o) := by
  intro n
  induction n using Nat.strongRecOn with
  | ind n ih =>
    intro l hn q o
    by_cases hl : l = []
    · rw [hl]; rfl
    · have hp := List.length_pos_iff.2 hl
      by_cases hC : isC (nx l).1
      · have := nx_c hC
        rw [chO_on hl hC, chO_on hl hC, show q + o + (nx l).2 = q + (nx l).2 + o by omega, ih _ (by rw [List.length_drop]; omega) _ rfl]
      · rw [chO_no hl hC, chO_no hl hC]; rfl
theorem chO_head (l : List UInt8) : ∀ j, j ≤ 14 → chO (head14 ++ l) 0 = chO ((head14 ++ l).drop j) j := by
  intro j
  induction j with
  | zero => intro _; rfl
  | succ j ih =>
    intro hj
    rw [ih (by omega)]
    obtain ⟨b, h1, h2⟩ := nx_head l j (by omega)
    rw [chO_on (by apply List.length_pos_iff.1; rw [List.length_drop, List.length_append]; simp [head14]; omega) (by rw [h1]; exact h2), h1, List.drop_drop]
theorem chkO_head {l : List UInt8} (hl : l.length ≤ 60000) : chkO (head14 ++ l) = (chkO l).map fun x => (x.1 + 14, x.2) := by
  have h14 : head14.length = 14 := rfl
  have hb : badAt (head14 ++ l) 0 = if badAt l 0 = -1 then -1 else badAt l 0 + 14 := by
    rw [head_runes l 14 (by omega)]
    exact badAt_mv head14 l _ 0 rfl
  have hc : chO (head14 ++ l) 0 = (chO l 0).map (· + 14) := by
    rw [chO_head l 14 (by omega), show (head14 ++ l).drop 14 = l from List.drop_left' rfl]
    exact chO_mv _ l rfl 0 14
  rcases badAt_ways l _ 0 rfl with h | ⟨k, h, _⟩
  · have hb' : badAt (head14 ++ l) 0 = -1 := by rw [hb, if_pos h]
    unfold chkO
    rw [if_neg (show ¬ 65536 < (head14 ++ l).length by rw [List.length_append]; omega), if_neg (show ¬ 65536 < l.length by omega), hb', h, if_neg (by decide), if_neg (by decide), hc]
    cases chO l 0 <;> rfl
  · have hb' : badAt (head14 ++ l) 0 = ((k + 14 : Nat) : Int) := by rw [hb, if_neg (by omega), h]; rfl
    unfold chkO
    rw [if_neg (show ¬ 65536 < (head14 ++ l).length by rw [List.length_append]; omega), if_neg (show ¬ 65536 < l.length by omega), hb', h, if_pos (by omega), if_pos (by omega)]
    rfl
theorem stepD_head (l : List UInt8) : stepD 0 (head14 ++ l) = .ok none 14 := by
  unfold stepD
  rw [if_pos (show Lib.hasPrefix (head14 ++ l) [60, 33, 45, 45] = true from prefix_iff.2 ⟨[32, 60, 97, 62, 32, 38, 32, 45, 45, 62] ++ l, rfl⟩)]
  have e : (head14 ++ l).drop 4 = [32, 60, 97, 62, 32, 38, 32, 45, 45, 62] ++ l := rfl
  have hi : Lib.index ([32, 60, 97, 62, 32, 38, 32, 45, 45, 62] ++ l) [45, 45, 62] = (7 : Nat) := by
    refine Lib.index_first (by rw [List.length_append]; simp; omega) ?_ ?_
    · simp [Lib.occAt]
    · intro j hj
      have : j = 0 ∨ j = 1 ∨ j = 2 ∨ j = 3 ∨ j = 4 ∨ j = 5 ∨ j = 6 := by omega
      rcases this with rfl | rfl | rfl | rfl | rfl | rfl | rfl <;> rfl
  rw [e]
  unfold upO
  rw [hi]
  rfl
theorem marksO_head {l : List UInt8} (hx : Lib.hasPrefix l [60, 63, 120, 109, 108] = false) : marksO (head14 ++ l) = ((marksO l).map (List.map (Mk.mv 14))).on 14 := by
  have d1 : declO (head14 ++ l) = .ok () 0 := by
    unfold declO declB
    rw [if_neg]
    intro h
    rw [Bool.and_eq_true] at h
    obtain ⟨t, ht⟩ := prefix_iff.1 h.1
    cases ht
  have d2 : declO l = .ok () 0 := by
    unfold declO declB
    rw [hx, if_neg (by simp)]
  have hd : docO 0 (head14 ++ l) = (docO 14 l).pres [none] 14 := by
    have := loop_ok goodD (k := 0) (l := head14 ++ l) (a := none) (m := 14) rfl (by rw [stepD_head]; rfl)
    exact this
  have hm : ∀ xs : List (Option Mk), List.filterMap id (xs.map (Option.map (Mk.mv 14))) = (List.filterMap id xs).map (Mk.mv 14) := by
    intro xs
    induction xs with
    | nil => rfl
    | cons x xs ih => cases x <;> simp [ih]
  unfold marksO
  rw [d1, d2]
  simp only [Out.fin, Out.seq, List.drop_zero]
  rw [hd, show (14 : Nat) = 0 + 14 from rfl, docO_mv 14 0 l]
  cases docO 0 l with
  | ok zs n => simp [Out.map, Out.pres, Out.on, hm]
  | bad d c => rfl
  | un => rfl
/-- what Marks answers of a document behind the comment -/
theorem resO_head {l : List UInt8} (hl : l.length ≤ 60000) (hx : Lib.hasPrefix l [60, 63, 120, 109, 108] = false) :
    resO (head14 ++ l) = match resO l with
      | .inl ms => .inl (ms.map (Mk.mv 14))
      | .inr (x, c) => .inr (x + 14, c) := by
  have hu : ∀ l, marksO l ≠ .un := by
    intro l hm
    unfold marksO at hm
    cases hd : declO l with
    | ok a n =>
      rw [hd] at hm
      simp only [Out.fin, Out.seq] at hm
      cases hq : docO n (l.drop n) with
      | ok b m => rw [hq] at hm; cases hm
      | bad b m => rw [hq] at hm; cases hm
      | un => exact loop_not_un (fun k l => by cases stepD k l <;> simp [Out.fin]) hq
    | bad d c => rw [hd] at hm; cases hm
    | un => rw [hd] at hm; cases hm
  unfold resO
  rw [chkO_head hl]
  cases chkO l with
  | some y => rfl
  | none =>
    simp only [Option.map_none]
    rw [marksO_head hx]
    cases hm : marksO l with
    | ok ms n => rfl
    | bad d c => rfl
    | un => exact absurd hm (hu l)
end Go.Proofs.YtbokcihlbpeagaaDoor
