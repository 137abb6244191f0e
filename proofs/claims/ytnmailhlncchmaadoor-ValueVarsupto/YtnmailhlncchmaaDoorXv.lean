/-
  What is proved: contracts of value's May and Zero, and of the document's May. Conditions: those in each statement.
-/
import Derived.Test.YtnmailhlncchmaaDoorXn
namespace Go.Proofs.YtnmailhlncchmaaDoor
open Go.RowKit

theorem isEmpty_no {s : ByteArray} (h : s.size ≠ 0) : s.toList.isEmpty = false := by
  rw [← decide_eq_emptyBytes]
  exact decide_eq_false (fun e => h (by rw [e]; rfl))
theorem size_nil : ByteArray.size ⟨#[]⟩ = 0 := rfl
set_option maxHeartbeats 8000000 in
set_option maxRecDepth 100000 in
theorem may_any (w : World) (k n : Int) (s : ByteArray) : Calls Tryd.prog 10 #[.agg #[.int .i64 k, .int .i64 n, .string s]] w fun e w' => e = .returned (.bool (mayV ⟨k, n, s⟩)) ∧ Below w.heap.size w w' := by
  by_cases h1 : k = 1
  · subst h1
    by_cases h0 : s.size = 0
    · obtain rfl := ba_nil.1 h0
      have hv : mayV ⟨1, n, ⟨#[]⟩⟩ = true := by unfold mayV; simp [size_nil]
      rw [hv]
      clear hv
      go_enter Tryd.func10, Tryd.ntmps10
      go_wp2
      first
      | done
      | (go_ret; exact ⟨rfl, ((Below.refl _ w).alloc (Nat.le_refl _) _)⟩)
    · have he := isEmpty_no h0
      have hv : mayV ⟨1, n, s⟩ = false := by unfold mayV; simp [h0]
      rw [hv]
      clear hv
      go_enter Tryd.func10, Tryd.ntmps10
      go_wp2
      first
      | done
      | (go_ret; exact ⟨rfl, ((Below.refl _ w).alloc (Nat.le_refl _) _)⟩)
  by_cases h2 : k = 2
  · subst h2
    by_cases h0 : s.size = 0
    · obtain rfl := ba_nil.1 h0
      by_cases hn0 : n = 0
      · subst hn0
        have hv : mayV ⟨2, 0, ⟨#[]⟩⟩ = true := by unfold mayV; simp [size_nil]
        rw [hv]
        clear hv
        go_enter Tryd.func10, Tryd.ntmps10
        go_wp2
        first
        | done
        | (go_ret; exact ⟨rfl, ((Below.refl _ w).alloc (Nat.le_refl _) _)⟩)
      · by_cases hn1 : n = 1
        · subst hn1
          have hv : mayV ⟨2, 1, ⟨#[]⟩⟩ = true := by unfold mayV; simp [size_nil]
          rw [hv]
          clear hv
          go_enter Tryd.func10, Tryd.ntmps10
          go_wp2
          first
          | done
          | (go_ret; exact ⟨rfl, ((Below.refl _ w).alloc (Nat.le_refl _) _)⟩)
        · have q0 : (n == 0) = false := beq_eq_false_iff_ne.2 hn0
          have q1 : (n == 1) = false := beq_eq_false_iff_ne.2 hn1
          have hv : mayV ⟨2, n, ⟨#[]⟩⟩ = false := by unfold mayV; simp [size_nil, hn0, hn1]
          rw [hv]
          clear hv
          go_enter Tryd.func10, Tryd.ntmps10
          go_wp2
          first
          | done
          | (go_ret; exact ⟨rfl, ((Below.refl _ w).alloc (Nat.le_refl _) _)⟩)
    · have he := isEmpty_no h0
      have hv : mayV ⟨2, n, s⟩ = false := by unfold mayV; simp [h0]
      rw [hv]
      clear hv
      go_enter Tryd.func10, Tryd.ntmps10
      go_wp2
      first
      | done
      | (go_ret; exact ⟨rfl, ((Below.refl _ w).alloc (Nat.le_refl _) _)⟩)
  by_cases h3 : k = 3
  · subst h3
    by_cases hn0 : n = 0
    · subst hn0
      by_cases h64 : s.size ≤ 64
      · have hz : (s.size : Int) ≤ 64 := by omega
        have hv : mayV ⟨3, 0, s⟩ = chsB s.data.toList := by unfold mayV; simp [h64]
        rw [hv]
        clear hv
        go_enter Tryd.func10, Tryd.ntmps10
        go_wp2_with (go_at_call 28; refine (isChars_any _ _ (by omega)).mono ?_; rintro e w2 ⟨rfl, rfl⟩)
        first
        | done
        | (go_ret; exact ⟨rfl, ((Below.refl _ w).alloc (Nat.le_refl _) _)⟩)
      · have hz : ¬ (s.size : Int) ≤ 64 := by omega
        have hv : mayV ⟨3, 0, s⟩ = false := by unfold mayV; simp [h64]
        rw [hv]
        clear hv
        go_enter Tryd.func10, Tryd.ntmps10
        go_wp2
        first
        | done
        | (go_ret; exact ⟨rfl, ((Below.refl _ w).alloc (Nat.le_refl _) _)⟩)
    · have q0 : (n == 0) = false := beq_eq_false_iff_ne.2 hn0
      have hv : mayV ⟨3, n, s⟩ = false := by unfold mayV; simp [hn0]
      rw [hv]
      clear hv
      go_enter Tryd.func10, Tryd.ntmps10
      go_wp2
      first
      | done
      | (go_ret; exact ⟨rfl, ((Below.refl _ w).alloc (Nat.le_refl _) _)⟩)
  · have q1 : (k == 1) = false := beq_eq_false_iff_ne.2 h1
    have q2 : (k == 2) = false := beq_eq_false_iff_ne.2 h2
    have q3 : (k == 3) = false := beq_eq_false_iff_ne.2 h3
    have hv : mayV ⟨k, n, s⟩ = false := by unfold mayV; simp [h1, h2, h3]
    rw [hv]
    clear hv
    go_enter Tryd.func10, Tryd.ntmps10
    go_wp2
    first
    | done
    | (go_ret; exact ⟨rfl, ((Below.refl _ w).alloc (Nat.le_refl _) _)⟩)
set_option maxHeartbeats 8000000 in
set_option maxRecDepth 100000 in
theorem dMay_any (w : World) (k n : Int) (s : ByteArray) : Calls Tryd.prog 11 #[.agg #[.int .i64 k, .int .i64 n, .string s]] w fun e w' => e = .returned (.bool (mayV ⟨k, n, s⟩)) ∧ Below w.heap.size w w' := by
  by_cases h1 : k = 1
  · subst h1
    by_cases h0 : s.size = 0
    · obtain rfl := ba_nil.1 h0
      have hv : mayV ⟨1, n, ⟨#[]⟩⟩ = true := by unfold mayV; simp [size_nil]
      rw [hv]
      clear hv
      go_enter Tryd.func11, Tryd.ntmps11
      go_wp2
      first
      | done
      | (go_ret; exact ⟨rfl, ((Below.refl _ w).alloc (Nat.le_refl _) _)⟩)
    · have he := isEmpty_no h0
      have hv : mayV ⟨1, n, s⟩ = false := by unfold mayV; simp [h0]
      rw [hv]
      clear hv
      go_enter Tryd.func11, Tryd.ntmps11
      go_wp2
      first
      | done
      | (go_ret; exact ⟨rfl, ((Below.refl _ w).alloc (Nat.le_refl _) _)⟩)
  by_cases h2 : k = 2
  · subst h2
    by_cases h0 : s.size = 0
    · obtain rfl := ba_nil.1 h0
      by_cases hn0 : n = 0
      · subst hn0
        have hv : mayV ⟨2, 0, ⟨#[]⟩⟩ = true := by unfold mayV; simp [size_nil]
        rw [hv]
        clear hv
        go_enter Tryd.func11, Tryd.ntmps11
        go_wp2
        first
        | done
        | (go_ret; exact ⟨rfl, ((Below.refl _ w).alloc (Nat.le_refl _) _)⟩)
      · by_cases hn1 : n = 1
        · subst hn1
          have hv : mayV ⟨2, 1, ⟨#[]⟩⟩ = true := by unfold mayV; simp [size_nil]
          rw [hv]
          clear hv
          go_enter Tryd.func11, Tryd.ntmps11
          go_wp2
          first
          | done
          | (go_ret; exact ⟨rfl, ((Below.refl _ w).alloc (Nat.le_refl _) _)⟩)
        · have q0 : (n == 0) = false := beq_eq_false_iff_ne.2 hn0
          have q1 : (n == 1) = false := beq_eq_false_iff_ne.2 hn1
          have hv : mayV ⟨2, n, ⟨#[]⟩⟩ = false := by unfold mayV; simp [size_nil, hn0, hn1]
          rw [hv]
          clear hv
          go_enter Tryd.func11, Tryd.ntmps11
          go_wp2
          first
          | done
          | (go_ret; exact ⟨rfl, ((Below.refl _ w).alloc (Nat.le_refl _) _)⟩)
    · have he := isEmpty_no h0
      have hv : mayV ⟨2, n, s⟩ = false := by unfold mayV; simp [h0]
      rw [hv]
      clear hv
      go_enter Tryd.func11, Tryd.ntmps11
      go_wp2
      first
      | done
      | (go_ret; exact ⟨rfl, ((Below.refl _ w).alloc (Nat.le_refl _) _)⟩)
  by_cases h3 : k = 3
  · subst h3
    by_cases hn0 : n = 0
    · subst hn0
      by_cases h64 : s.size ≤ 64
      · have hz : (s.size : Int) ≤ 64 := by omega
        have hv : mayV ⟨3, 0, s⟩ = chsB s.data.toList := by unfold mayV; simp [h64]
        rw [hv]
        clear hv
        go_enter Tryd.func11, Tryd.ntmps11
        go_wp2_with (go_at_call 29; refine (chars_any _ _ (by omega)).mono ?_; rintro e w2 ⟨rfl, hb2⟩)
        first
        | done
        | (go_ret; exact ⟨rfl, (((Below.refl _ w).alloc (Nat.le_refl _) _).trans (hb2.mono (by simp)))⟩)
      · have hz : ¬ (s.size : Int) ≤ 64 := by omega
        have hv : mayV ⟨3, 0, s⟩ = false := by unfold mayV; simp [h64]
        rw [hv]
        clear hv
        go_enter Tryd.func11, Tryd.ntmps11
        go_wp2
        first
        | done
        | (go_ret; exact ⟨rfl, ((Below.refl _ w).alloc (Nat.le_refl _) _)⟩)
    · have q0 : (n == 0) = false := beq_eq_false_iff_ne.2 hn0
      have hv : mayV ⟨3, n, s⟩ = false := by unfold mayV; simp [hn0]
      rw [hv]
      clear hv
      go_enter Tryd.func11, Tryd.ntmps11
      go_wp2
      first
      | done
      | (go_ret; exact ⟨rfl, ((Below.refl _ w).alloc (Nat.le_refl _) _)⟩)
  · have q1 : (k == 1) = false := beq_eq_false_iff_ne.2 h1
    have q2 : (k == 2) = false := beq_eq_false_iff_ne.2 h2
    have q3 : (k == 3) = false := beq_eq_false_iff_ne.2 h3
    have hv : mayV ⟨k, n, s⟩ = false := by unfold mayV; simp [h1, h2, h3]
    rw [hv]
    clear hv
    go_enter Tryd.func11, Tryd.ntmps11
    go_wp2
    first
    | done
    | (go_ret; exact ⟨rfl, ((Below.refl _ w).alloc (Nat.le_refl _) _)⟩)
/-- the first value of a kind -/
def zeroV (k : Int) : Int := if k = 1 ∨ k = 2 ∨ k = 3 then k else 0
set_option maxHeartbeats 4000000 in
set_option maxRecDepth 100000 in
theorem zero_any (w : World) (k : Int) : Calls Tryd.prog 16 #[.int .i64 k] w fun e w' => e = .returned (.agg #[.int .i64 (zeroV k), .int .i64 0, .string ⟨#[]⟩]) ∧ Below w.heap.size w w' := by
  by_cases h1 : k = 1
  · subst h1
    go_enter Tryd.func16, Tryd.ntmps16
    go_wp2
    refine bodyPost_ret (v := .agg #[.int .i64 1, .int .i64 0, .string ⟨#[]⟩]) (by simp only [results, Tryd.results16]; simp [go_sem]) rfl ?_
    exact ⟨rfl, (Below.refl _ _).alloc (Nat.le_refl _) _⟩
  by_cases h2 : k = 2
  · subst h2
    go_enter Tryd.func16, Tryd.ntmps16
    go_wp2
    refine bodyPost_ret (v := .agg #[.int .i64 2, .int .i64 0, .string ⟨#[]⟩]) (by simp only [results, Tryd.results16]; simp [go_sem]) rfl ?_
    exact ⟨rfl, (Below.refl _ _).alloc (Nat.le_refl _) _⟩
  by_cases h3 : k = 3
  · subst h3
    go_enter Tryd.func16, Tryd.ntmps16
    go_wp2
    refine bodyPost_ret (v := .agg #[.int .i64 3, .int .i64 0, .string ⟨#[]⟩]) (by simp only [results, Tryd.results16]; simp [go_sem]) rfl ?_
    exact ⟨rfl, (Below.refl _ _).alloc (Nat.le_refl _) _⟩
  · have q1 : (k == 1) = false := beq_eq_false_iff_ne.2 h1
    have q2 : (k == 2) = false := beq_eq_false_iff_ne.2 h2
    have q3 : (k == 3) = false := beq_eq_false_iff_ne.2 h3
    rw [show zeroV k = 0 from if_neg (by omega)]
    go_enter Tryd.func16, Tryd.ntmps16
    go_wp2
    refine bodyPost_ret (v := .agg #[.int .i64 0, .int .i64 0, .string ⟨#[]⟩]) (by simp only [results, Tryd.results16]; simp [go_sem]) rfl ?_
    exact ⟨rfl, (Below.refl _ _).alloc (Nat.le_refl _) _⟩
end Go.Proofs.YtnmailhlncchmaaDoor
