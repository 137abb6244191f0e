/-
  What is proved: plain facts on lists of changes: of a sorted row, what is left when of neighbours with one key the first is kept. No program in it. No condition but those in each statement.
-/
import Derived.Test.YtbfhlleipeipbaaCf
namespace Go.Proofs.Ytbfhlleipeipbaa
open Go.Lib Go.Sort

/-- A change's key, as bytes. -/
def ky (c : Cg) : List UInt8 := c.key.data.toList
def hasKey (k : List UInt8) (c : Cg) : Bool := ky c == k
def keq (x y : Cg) : Bool := ky x == ky y
/-- Rising keys. -/
def Asc (l : List Cg) : Prop := l.Pairwise fun x y => klt x y = true

theorem klt_total {x y : Cg} (h : klt x y = false) (hne : ky x ≠ ky y) : klt y x = true := by
  rw [klt_iff, cb_neg]
  have h1 := (klt_not x y).1 h
  have h2 : compareBytes x.key.data.toList y.key.data.toList ≠ 0 := fun e => hne (cb_zero _ _ e)
  omega
theorem klt_ne {x y : Cg} (h : klt x y = true) : ky x ≠ ky y := fun e => by
  have h1 := (klt_iff x y).1 h
  unfold ky at e
  rw [e, cb_self] at h1
  exact absurd h1 (by decide)
theorem kept_mem {eqb : Cg → Cg → Bool} {d : Array Cg} {m : Nat} {x : Cg} (h : x ∈ kept eqb d m) : ∃ i, i < m ∧ x = d[i]! := by
  unfold kept at h
  obtain ⟨i, hi, rfl⟩ := List.mem_map.1 h
  exact ⟨i, List.mem_range.1 (List.mem_filter.1 hi).1, rfl⟩
theorem kept_asc {d : Array Cg} : ∀ m : Nat, SortedIn (ltOf kcmp) 0 m d → Asc (kept keq d m)
  | 0, _ => List.Pairwise.nil
  | m + 1, h => by
    have ih := kept_asc m fun i j h1 h2 h3 => h i j h1 h2 (by omega)
    cases hk : keepAt keq d m with
    | false => rw [kept_no hk]; exact ih
    | true =>
      rw [kept_yes hk]
      refine List.pairwise_append.2 ⟨ih, List.pairwise_singleton _ _, fun x hx y hy => ?_⟩
      obtain ⟨i, hi, rfl⟩ := kept_mem hx
      rw [List.mem_singleton.1 hy]
      have hne : ky d[m - 1]! ≠ ky d[m]! := fun e => by
        unfold keepAt keq at hk
        rw [e] at hk
        have : (m == 0) = false := by simp; omega
        rw [this] at hk
        simp at hk
      have h1 : klt d[m]! d[m - 1]! = false := h (m - 1) m (Nat.zero_le _) (by omega) (by omega)
      have h2 : klt d[m - 1]! d[m]! = true := klt_total h1 (fun e => hne e.symm)
      by_cases e : i = m - 1
      · rw [e]; exact h2
      · exact lt_down klt_swo h2 (h i (m - 1) (Nat.zero_le _) (by omega) (by omega))
theorem kept_find {d : Array Cg} (k : List UInt8) : ∀ m : Nat, SortedIn (ltOf kcmp) 0 m d → (kept keq d m).find? (hasKey k) = (seg d 0 m).find? (hasKey k)
  | 0, _ => rfl
  | m + 1, h => by
    have ih := kept_find k m fun i j h1 h2 h3 => h i j h1 h2 (by omega)
    rw [seg_add, List.find?_append, Nat.zero_add, ← ih]
    cases hk : keepAt keq d m with
    | true => rw [kept_yes hk, List.find?_append]; rfl
    | false =>
      rw [kept_no hk]
      have hm : 0 < m := by
        rcases Nat.eq_zero_or_pos m with h0 | h0
        · subst h0; simp [keepAt] at hk
        · exact h0
      have e : ky d[m]! = ky d[m - 1]! := by
        unfold keepAt keq at hk
        simp at hk
        exact hk.2
      show _ = ((kept keq d m).find? (hasKey k)).or ([d[m]!].find? (hasKey k))
      by_cases hx : hasKey k d[m]! = true
      · have hp : hasKey k d[m - 1]! = true := by unfold hasKey at hx ⊢; rw [← e]; exact hx
        have hs : ((seg d 0 m).find? (hasKey k)).isSome = true := List.find?_isSome.2 ⟨d[m - 1]!, seg_mem.2 ⟨m - 1, by omega, by congr 1; omega⟩, hp⟩
        rw [ih]
        cases hf : (seg d 0 m).find? (hasKey k) with
        | none => rw [hf] at hs; cases hs
        | some v => rfl
      · have : [d[m]!].find? (hasKey k) = none := by simp [hx]
        rw [this]
        cases (kept keq d m).find? (hasKey k) <;> rfl
theorem find_filter (k : List UInt8) : ∀ l : List Cg, l.find? (hasKey k) = (l.filter (hasKey k)).head?
  | [] => rfl
  | x :: l => by
    by_cases h : hasKey k x = true
    · simp [h]
    · rw [List.find?_cons_of_neg h, List.filter_cons_of_neg h]; exact find_filter k l

/-- L has of each key the last change of l, by rising keys. -/
def LastOf (l L : List Cg) : Prop := Asc L ∧ ∀ k, L.find? (hasKey k) = l.reverse.find? (hasKey k)
theorem lastOf_nil : LastOf [] [] := ⟨List.Pairwise.nil, fun _ => rfl⟩
theorem lastOf_sorted {l : List Cg} {d : Array Cg} (hs : d.size = l.length) (hst : StbIn (ltOf kcmp) 0 l.length l.reverse.toArray d) (hso : SortedIn (ltOf kcmp) 0 l.length d) : LastOf l (kept keq d d.size) := by
  refine ⟨kept_asc _ (by rw [hs]; exact hso), fun k => ?_⟩
  rw [kept_find k _ (by rw [hs]; exact hso), find_filter, find_filter, hs]
  have h1 := hst.2.2 (hasKey k) fun x y hx hy => by
    have e : ky x = ky y := by
      unfold hasKey at hx hy
      rw [beq_iff_eq.1 hx, beq_iff_eq.1 hy]
    show klt x y = false
    rw [klt_not]
    unfold ky at e
    rw [e, cb_self]; decide
  rw [← h1]
  have h2 := seg_whole l.reverse.toArray
  rw [show l.reverse.toArray.size = l.length by simp] at h2
  rw [h2]
end Go.Proofs.Ytbfhlleipeipbaa
