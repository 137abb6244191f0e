/-
  What is proved: plain facts on what an Append, whole or cut off, and a crash behind it, leave of a disk's bytes. No condition but those in each statement.
-/
import Derived.Test.YtkghjgpeobacjaaJl
namespace Go.Proofs.Ytkghjgpeobacjaa
open Go.RowKit

/-! ### rows that are laid into a row -/
theorem splice_get {α : Type} (X v : List α) (o i : Nat) (h : o + v.length ≤ X.length) : (splice X o v)[i]? = if i < o then X[i]? else if i < o + v.length then v[i - o]? else X[i]? := by
  unfold splice
  by_cases h1 : i < o
  · rw [List.getElem?_append_left (by rw [List.length_take]; omega), List.getElem?_take, if_pos h1, if_pos h1]
  · have e : (X.take o).length = o := by rw [List.length_take]; omega
    rw [if_neg h1, List.getElem?_append_right (by omega), e]
    by_cases h2 : i < o + v.length
    · rw [if_pos h2, List.getElem?_append_left (by omega)]
    · rw [if_neg h2, List.getElem?_append_right (by omega), List.getElem?_drop]
      congr 1
      omega
theorem splice_splice {α : Type} (X v y : List α) (o : Nat) (h : o + v.length + y.length ≤ X.length) : splice (splice X o v) (o + v.length) y = splice X o (v ++ y) := by
  have hl : (splice X o v).length = X.length := length_splice X o v (by omega)
  apply List.ext_getElem?
  intro i
  rw [splice_get _ _ _ _ (by omega), splice_get _ _ _ _ (by omega), splice_get _ _ _ _ (by rw [List.length_append]; omega), List.length_append]
  by_cases h1 : i < o
  · rw [if_pos (by omega), if_pos h1, if_pos h1]
  · by_cases h2 : i < o + v.length
    · rw [if_pos h2, if_neg h1, if_pos h2, if_neg h1, if_pos (by omega), List.getElem?_append_left (by omega)]
    · rw [if_neg h2]
      by_cases h3 : i < o + v.length + y.length
      · rw [if_pos h3, if_neg h1, if_pos (by omega), List.getElem?_append_right (by omega)]
        congr 1
        omega
      · rw [if_neg h3, if_neg h1, if_neg h2, if_neg h1, if_neg (by omega)]
theorem splice_ahead {α : Type} (X v : List α) (o r : Nat) (h : o + v.length ≤ X.length) (hv : ∀ i, i < r → i < v.length → v[i]? = X[o + i]?) : (splice X o v).take (o + r) = X.take (o + r) := by
  apply List.ext_getElem?
  intro i
  rw [List.getElem?_take, List.getElem?_take]
  by_cases h1 : i < o + r
  · rw [if_pos h1, if_pos h1, splice_get _ _ _ _ h]
    by_cases h2 : i < o
    · rw [if_pos h2]
    · rw [if_neg h2]
      by_cases h3 : i < o + v.length
      · rw [if_pos h3, hv (i - o) (by omega) (by omega)]
        congr 1
        omega
      · rw [if_neg h3]
  · rw [if_neg h1, if_neg h1]

/-! ### sectors as one row of bytes -/
def D.flat (s : D) : List UInt8 := (settle s.last s.buf).flatten
theorem D.Ok.sets {s : D} (h : s.Ok) : ∀ l ∈ settle s.last s.buf, l.length = 64 := settle_sec _ _ h.sec fun p hp => (h.wr p hp).2
theorem D.Ok.flat_len {s : D} (h : s.Ok) : s.flat.length = 64 * s.last.length := by
  unfold D.flat
  rw [flat_length 64 _ h.sets, settle_length, Nat.mul_comm]
theorem flat_at {S : List (List UInt8)} (h : ∀ l ∈ S, l.length = 64) {k : Nat} (hk : k < S.length) : S[k]?.getD [] = (S.flatten.drop (64 * k)).take 64 := by
  rw [List.getElem?_eq_getElem hk, Option.getD_some]
  have hl := h _ (List.getElem_mem hk)
  apply List.ext_getElem?
  intro i
  rw [List.getElem?_take]
  by_cases hi : i < 64
  · rw [if_pos hi, List.getElem?_drop, Nat.mul_comm, flat_get 64 S h k i hk hi]
  · rw [if_neg hi, List.getElem?_eq_none (by omega)]
theorem D.Ok.told_flat {s : D} (h : s.Ok) {k : Nat} (hk : k < s.last.length) : s.told k = (s.flat.drop (64 * k)).take 64 := flat_at h.sets (by rw [settle_length]; exact hk)
theorem take_more {α : Type} (X : List α) (o a b : Nat) : (X.drop o).take (a + b) = (X.drop o).take a ++ (X.drop (o + a)).take b := by
  rw [List.take_add, List.drop_drop]
theorem D.Ok.bytes_flat {s : D} (h : s.Ok) (k : Nat) : ∀ N, k + N ≤ s.last.length → s.bytes k N = (s.flat.drop (64 * k)).take (64 * N)
  | 0, _ => by simp [D.bytes]
  | N + 1, hN => by
    rw [D.bytes_succ, h.bytes_flat k N (by omega), h.told_flat (by omega), Nat.mul_succ, take_more]
    congr 3
    omega
theorem D.Ok.area_flat {s : D} (h : s.Ok) {k n : Nat} (hN : k + (n + 63) / 64 ≤ s.last.length) : s.area k n = (s.flat.drop (64 * k)).take n := by
  unfold D.area
  rw [h.bytes_flat k _ hN, List.take_take]
  congr 1
  omega

/-! ### the writes of an Append -/
def wOf (k0 : Nat) (l : List UInt8) (i : Nat) : Nat × List UInt8 := (k0 + i, pad ((l.drop (64 * i)).take 64))
def wsOf (k0 : Nat) (l : List UInt8) (j : Nat) : List (Nat × List UInt8) := (List.range j).map (wOf k0 l)
theorem wsOf_succ (k0 : Nat) (l : List UInt8) (j : Nat) : wsOf k0 l (j + 1) = wsOf k0 l j ++ [wOf k0 l j] := by simp [wsOf, List.range_succ]
theorem wsOf_length (k0 : Nat) (l : List UInt8) (j : Nat) : (wsOf k0 l j).length = j := by simp [wsOf]
theorem wsOf_take (k0 : Nat) (l : List UInt8) (j p : Nat) (h : p ≤ j) : (wsOf k0 l j).take p = wsOf k0 l p := by
  unfold wsOf
  rw [← List.map_take]
  congr 1
  rw [List.take_range, Nat.min_eq_left h]
theorem wOf_len (k0 : Nat) (l : List UInt8) (i : Nat) : (wOf k0 l i).2.length = 64 := pad_length _ (by simp only [List.length_take]; omega)
theorem wrs_form {s : D} {k0 N : Nat} (l : List UInt8) (hin : k0 + N ≤ s.last.length) : ∀ k, k ≤ N → ∃ j lf, j ≤ k ∧ s.wrs k0 l k = ⟨s.last, s.buf ++ wsOf k0 l j, lf⟩ ∧ (lf ≠ 0 → j = k)
  | 0, _ => ⟨0, s.left, Nat.le_refl _, by simp [D.wrs, wsOf], fun _ => rfl⟩
  | k + 1, hk => by
    obtain ⟨j, lf, hj, e, hl⟩ := wrs_form l hin k (by omega)
    by_cases h0 : lf = 0
    · refine ⟨j, lf, by omega, ?_, fun h => absurd h0 h⟩
      show (s.wrs k0 l k).wSt _ _ = _
      rw [e]
      exact wSt_dead h0 _ _
    · obtain rfl := hl h0
      refine ⟨j + 1, tick lf, Nat.le_refl _, ?_, fun _ => rfl⟩
      show (s.wrs k0 l j).wSt _ _ = _
      rw [e, wSt_zero (by rw [refuse_in (by simp only; omega)]; exact if_neg h0) (by simp only [List.length_take]; omega), wsOf_succ, ← List.append_assoc]
      rfl
/-- the bytes that are written to the first j sectors -/
def PL (l : List UInt8) (j : Nat) : List UInt8 := ((List.range j).map fun i => pad ((l.drop (64 * i)).take 64)).flatten
theorem PL_succ (l : List UInt8) (j : Nat) : PL l (j + 1) = PL l j ++ pad ((l.drop (64 * j)).take 64) := by simp [PL, List.range_succ]
theorem PL_length (l : List UInt8) : ∀ j, (PL l j).length = 64 * j
  | 0 => rfl
  | j + 1 => by rw [PL_succ, List.length_append, PL_length l j, pad_length _ (by simp only [List.length_take]; omega)]; omega
theorem PL_take (l : List UInt8) : ∀ j q, q ≤ 64 * j → q ≤ l.length → (PL l j).take q = l.take q
  | 0, q, h, _ => by
    obtain rfl : q = 0 := by omega
    simp
  | j + 1, q, h, hl => by
    have e := PL_length l j
    rw [PL_succ]
    by_cases h1 : q ≤ 64 * j
    · rw [List.take_append_of_le_length (by omega), PL_take l j q h1 hl]
    · have ih := PL_take l j (64 * j) (Nat.le_refl _) (by omega)
      rw [List.take_of_length_le (by omega)] at ih
      rw [List.take_append, e, List.take_of_length_le (by omega), ih]
      unfold pad
      rw [List.take_append_of_le_length (by simp only [List.length_take, List.length_drop]; omega), List.take_take, Nat.min_eq_left (by omega)]
      have : l.take q = l.take (64 * j + (q - 64 * j)) := by congr 1; omega
      rw [this, List.take_add]
theorem PL_get (l : List UInt8) (j i : Nat) (h1 : i < 64 * j) (h2 : i < l.length) : (PL l j)[i]? = l[i]? := by
  have e := congrArg (·[i]?) (PL_take l j (i + 1) (by omega) (by omega))
  simp only [List.getElem?_take, if_pos (Nat.lt_succ_self i)] at e
  exact e
theorem settle_ws {S : List (List UInt8)} (hS : ∀ l ∈ S, l.length = 64) (k0 : Nat) (l : List UInt8) : ∀ j, k0 + j ≤ S.length → (∀ x ∈ settle S (wsOf k0 l j), x.length = 64) ∧ (settle S (wsOf k0 l j)).flatten = splice S.flatten (64 * k0) (PL l j)
  | 0, _ => ⟨hS, by simp [wsOf, settle, PL, splice]⟩
  | j + 1, hj => by
    obtain ⟨h1, h2⟩ := settle_ws hS k0 l j (by omega)
    have hl : (settle S (wsOf k0 l j)).length = S.length := settle_length _ _
    have hf := flat_length 64 S hS
    have hp : (pad ((l.drop (64 * j)).take 64)).length = 64 := pad_length _ (by simp only [List.length_take]; omega)
    have e := PL_length l j
    rw [wsOf_succ, settle_snoc]
    refine ⟨mem_set_len h1 _ _ (wOf_len k0 l j), ?_⟩
    show ((settle S (wsOf k0 l j)).set (k0 + j) (pad ((l.drop (64 * j)).take 64))).flatten = _
    rw [flat_set 64 _ h1 (k0 + j) (by omega) _ hp, h2, PL_succ, ← splice_splice _ _ _ _ (by omega), e]
    congr 1
    omega
/-- with the last one torn -/
theorem settle_torn {S : List (List UInt8)} (hS : ∀ l ∈ S, l.length = 64) (k0 : Nat) (l : List UInt8) (j t : Nat) (hj : k0 + j < S.length) (ht : t ≤ 64) :
    ((settle S (wsOf k0 l j)).set (k0 + j) (tear (wOf k0 l j).2 ((settle S (wsOf k0 l j))[k0 + j]?.getD []) t)).flatten = splice S.flatten (64 * k0) ((PL l (j + 1)).take (64 * j + t)) := by
  obtain ⟨h1, h2⟩ := settle_ws hS k0 l j (by omega)
  have hl : (settle S (wsOf k0 l j)).length = S.length := settle_length _ _
  have hf := flat_length 64 S hS
  have hf1 := flat_length 64 _ h1
  have hp : (pad ((l.drop (64 * j)).take 64)).length = 64 := pad_length _ (by simp only [List.length_take]; omega)
  have e := PL_length l j
  have ho : ((settle S (wsOf k0 l j))[k0 + j]?.getD []).length = 64 := getD_len h1 (by omega)
  have htl : (tear (wOf k0 l j).2 ((settle S (wsOf k0 l j))[k0 + j]?.getD []) t).length = 64 := by
    simp only [tear, List.length_append, List.length_take, List.length_drop, wOf_len, ho]
    omega
  rw [flat_set 64 _ h1 (k0 + j) (by omega) _ htl]
  unfold tear
  have htk : ((wOf k0 l j).2.take t).length = t := by rw [List.length_take, wOf_len]; omega
  rw [splice_part, h2]
  · have h3 : splice S.flatten (64 * k0) (PL l j ++ (wOf k0 l j).2.take t) = splice (splice S.flatten (64 * k0) (PL l j)) (64 * k0 + (PL l j).length) ((wOf k0 l j).2.take t) := (splice_splice _ _ _ _ (by omega)).symm
    have hT : (PL l (j + 1)).take (64 * j + t) = PL l j ++ (wOf k0 l j).2.take t := by
      rw [PL_succ, List.take_append, e, List.take_of_length_le (l := PL l j) (by omega), show 64 * j + t - 64 * j = t by omega]
      rfl
    rw [show (k0 + j) * 64 = 64 * k0 + (PL l j).length by rw [e]; omega, hT]
    exact h3.symm
  · rw [htk, flat_at h1 (by omega), List.drop_take, List.drop_drop, List.length_take, List.length_drop]
    have : min (64 - t) ((settle S (wsOf k0 l j)).flatten.length - (64 * (k0 + j) + t)) = 64 - t := by omega
    rw [this]
    congr 2
    omega

/-! ### what is ahead of a frame, and the frame -/
section
variable {s : D} {k0 r : Nat} {b : List UInt8}
theorem appL_len (h : s.Ok) (hk : k0 < s.last.length) (hr : r < 64) : (s.appL k0 r b).length = r + 16 + b.length := by
  unfold D.appL
  rw [List.length_append, List.length_take, h.told_len hk, frameOf_length]
  omega
theorem appL_ahead (h : s.Ok) (hk : k0 < s.last.length) (hr : r < 64) (hb : s.buf = []) (i : Nat) (hi : i < r) : (s.appL k0 r b)[i]? = s.last.flatten[64 * k0 + i]? := by
  have e : s.flat = s.last.flatten := by unfold D.flat; rw [hb]; rfl
  unfold D.appL
  rw [List.getElem?_append_left (by rw [List.length_take, h.told_len hk]; omega), List.getElem?_take, if_pos hi, h.told_flat hk, List.getElem?_take, if_pos (by omega), List.getElem?_drop, e]
/-- whatever part of what is written stands there: what was ahead is as it was -/
theorem ahead_part (h : s.Ok) (hr : r < 64) (hb : s.buf = []) {j q : Nat} (hin : k0 + j ≤ s.last.length) (hk : k0 < s.last.length) :
    (splice s.last.flatten (64 * k0) ((PL (s.appL k0 r b) j).take q)).take (64 * k0 + r) = s.last.flatten.take (64 * k0 + r) := by
  have e := PL_length (s.appL k0 r b) j
  have hf := flat_length 64 s.last h.sec
  have hl := appL_len (b := b) h hk hr
  refine splice_ahead _ _ _ _ (by rw [List.length_take]; omega) fun i hi hv => ?_
  rw [List.length_take] at hv
  rw [List.getElem?_take, if_pos (by omega), PL_get _ _ _ (by omega) (by omega)]
  exact appL_ahead h hk hr hb i hi
/-- all of it -/
theorem whole_part (h : s.Ok) (hr : r < 64) (hin : k0 + (r + 8 + 8 + b.length + 63) / 64 ≤ s.last.length) :
    ((splice s.last.flatten (64 * k0) (PL (s.appL k0 r b) ((r + 8 + 8 + b.length + 63) / 64))).drop (64 * k0 + r)).take (16 + b.length) = frameOf b := by
  have hk : k0 < s.last.length := by omega
  have e := PL_length (s.appL k0 r b) ((r + 8 + 8 + b.length + 63) / 64)
  have hf := flat_length 64 s.last h.sec
  have hl := appL_len (b := b) h hk hr
  have hfl := frameOf_length b
  apply List.ext_getElem?
  intro i
  rw [List.getElem?_take]
  by_cases hi : i < 16 + b.length
  · rw [if_pos hi, List.getElem?_drop, splice_get _ _ _ _ (by omega), if_neg (by omega), if_pos (by omega), PL_get _ _ _ (by omega) (by omega)]
    have ht : ((s.told k0).take r).length = r := by rw [List.length_take, h.told_len hk]; omega
    unfold D.appL
    rw [List.getElem?_append_right (by omega), ht]
    congr 1
    omega
  · rw [if_neg hi, List.getElem?_eq_none (by omega)]

/-- what Append leaves of a disk on which nothing waits: it answered OK, and the frame stands there; or not, and of a part of its writes nothing is flushed -/
theorem app_form (hin : k0 + (r + 8 + 8 + b.length + 63) / 64 ≤ s.last.length) (hb : s.buf = []) :
    ((s.appW k0 r b).fErr = 0 ∧ (s.appW k0 r b).fSt.buf = [] ∧ (s.appW k0 r b).fSt.last = settle s.last (wsOf k0 (s.appL k0 r b) ((r + 8 + 8 + b.length + 63) / 64))) ∨
    ((s.appW k0 r b).fErr = 32 ∧ ∃ j, j ≤ (r + 8 + 8 + b.length + 63) / 64 ∧ (s.appW k0 r b).fSt.buf = wsOf k0 (s.appL k0 r b) j ∧ (s.appW k0 r b).fSt.last = s.last) := by
  obtain ⟨j, lf, hj, e, hl⟩ := wrs_form (s := s) (k0 := k0) (s.appL k0 r b) hin _ (Nat.le_refl _)
  have e' : s.appW k0 r b = ⟨s.last, wsOf k0 (s.appL k0 r b) j, lf⟩ := by
    unfold D.appW
    rw [e, hb, List.nil_append]
  rw [e']
  by_cases h0 : lf = 0
  · refine .inr ⟨fErr_dead h0, j, hj, ?_, ?_⟩
    · rw [fSt_dead h0]
    · rw [fSt_dead h0]
  · obtain rfl := hl h0
    refine .inl ⟨?_, ?_, ?_⟩
    · unfold D.fErr; rw [if_neg h0]
    · unfold D.fSt; rw [if_neg h0]
    · unfold D.fSt; rw [if_neg h0]
end
end Go.Proofs.Ytkghjgpeobacjaa
