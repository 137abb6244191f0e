/-
  What is proved: what the disk's small functions answer and leave, told by the disk as lists. Conditions: the disk lies in memory as it must; numbers are within their kind.
-/
import Derived.Test.YtbfhlleipeipbaaDisk
namespace Go.Proofs.Ytbfhlleipeipbaa
open Go.RowKit

/-- a disk's fields -/
theorem Dk.form {w : World} {g L : Nat} {q : Option Nat} {s : D} (h : Dk w g L q s) : ∃ cap A c, w.heap[g]? = some (.cells #[.slice (some ⟨L, 0, none⟩) s.last.length cap, .slice A s.buf.length c, .int .i64 s.left] 61 (0, 0)) ∧
    w.ownsRow 0 88 64 (.slice (some ⟨L, 0, none⟩) s.last.length cap) s.last.length (secV s.last) ∧ w.ownsRow 0 90 65 (.slice A s.buf.length c) s.buf.length (bufV s.buf) ∧ (Value.slice A s.buf.length c).ownBlock = q := by
  obtain ⟨ok, cap, v, hg, hL, hB, hq⟩ := h
  rcases hB.2 with ⟨rfl, h0⟩ | ⟨g', c, cur, rfl, _⟩
  · exact ⟨cap, none, 0, by rw [h0]; exact hg, hL, by rw [h0] at hB ⊢; exact hB, by rw [h0]; exact hq⟩
  · exact ⟨cap, _, c, hg, hL, hB, hq⟩
theorem box_cells {w : World} {g : Nat} {x y z : Value} (hg : w.heap[g]? = some (.cells #[x, y, z] 61 (0, 0))) :
    w.cell? ⟨g, 0, none⟩ = some x ∧ w.cell? ⟨g, 1, none⟩ = some y ∧ w.cell? ⟨g, 2, none⟩ = some z ∧ ∀ j, w.frozen? ⟨g, j, none⟩ = false := by
  refine ⟨?_, ?_, ?_, ?_⟩
  · rw [cell_of_row w g 0 _ 61 (0, 0) hg]; rfl
  · rw [cell_of_row w g 1 _ 61 (0, 0) hg]; rfl
  · rw [cell_of_row w g 2 _ 61 (0, 0) hg]; rfl
  · intro j; simp [World.frozen?, hg]

theorem clamp_any (n lo hi : Int) (w : World) : Calls Try.prog 24 #[.int .i64 n, .int .i64 lo, .int .i64 hi] w fun e w' => e = .returned (.int .i64 (min (max n lo) hi)) ∧ w' = w := by
  have hv : ∀ x : Int, x = min (max n lo) hi → Ending.returned (.int .i64 x) = Ending.returned (.int .i64 (min (max n lo) hi)) := fun x e => by rw [e]
  have HV := Lib.hid hv
  clear hv
  go_enter Try.func24, Try.ntmps24
  go_wp2
  all_goals
    go_ret
    exact ⟨HV.out _ (by omega), rfl⟩

theorem down_any (w : World) (g L : Nat) (q : Option Nat) (s : D) (h : Dk w g L q s) : Calls Try.prog 32 #[.pointer (some ⟨g, 0, none⟩)] w fun e w' => e = .returned (.bool (decide (s.left = 0))) ∧ w' = w := by
  obtain ⟨cap, A, c, hg, _, _, _⟩ := h.form
  obtain ⟨_, _, c2, _⟩ := box_cells hg
  clear h hg
  go_enter Try.func32, Try.ntmps32
  go_wp2
  go_ret
  exact ⟨rfl, rfl⟩

theorem size_any (w : World) (g L : Nat) (q : Option Nat) (s : D) (h : Dk w g L q s) : Calls Try.prog 25 #[.pointer (some ⟨g, 0, none⟩)] w fun e w' => e = .returned (.int .i64 (s.last.length : Int)) ∧ w' = w := by
  obtain ⟨cap, A, c, hg, _, _, _⟩ := h.form
  obtain ⟨c0, _, _, _⟩ := box_cells hg
  clear h hg
  go_enter Try.func25, Try.ntmps25
  go_wp2
  go_ret
  exact ⟨rfl, rfl⟩

theorem refusal_any (w : World) (g L : Nat) (q : Option Nat) (s : D) (h : Dk w g L q s) (i : Int) : Calls Try.prog 63 #[.pointer (some ⟨g, 0, none⟩), .int .i64 i] w fun e w' => e = .returned (.int .i64 (s.refuse i)) ∧ w' = w := by
  have HD := Lib.hid (down_any w g L q s h)
  obtain ⟨cap, A, c, hg, _, _, _⟩ := h.form
  obtain ⟨c0, _, _, _⟩ := box_cells hg
  clear h hg
  by_cases h0 : s.left = 0
  · go_enter Try.func63, Try.ntmps63
    go_wp2_with (go_at_call 32; refine HD.out.mono ?_; rintro e w1 ⟨rfl, rfl⟩)
    go_ret
    refine ⟨?_, rfl⟩
    unfold D.refuse
    simp [h0]
  by_cases h1 : i < 0
  · go_enter Try.func63, Try.ntmps63
    go_wp2_with (go_at_call 32; refine HD.out.mono ?_; rintro e w1 ⟨rfl, rfl⟩)
    go_ret
    refine ⟨?_, rfl⟩
    unfold D.refuse
    simp [h0, h1]
  by_cases h2 : (s.last.length : Int) ≤ i
  · go_enter Try.func63, Try.ntmps63
    go_wp2_with (go_at_call 32; refine HD.out.mono ?_; rintro e w1 ⟨rfl, rfl⟩)
    go_ret
    refine ⟨?_, rfl⟩
    unfold D.refuse
    simp [h0, h2]
  · go_enter Try.func63, Try.ntmps63
    go_wp2_with (go_at_call 32; refine HD.out.mono ?_; rintro e w1 ⟨rfl, rfl⟩)
    go_ret
    refine ⟨?_, rfl⟩
    unfold D.refuse
    simp [h0, h1, h2]

/-- the number of changes left is turned -/
theorem Dk.left_ {w : World} {g L : Nat} {q : Option Nat} {s : D} (h : Dk w g L q s) (n : Int) (h1 : -9223372036854775808 ≤ n) (h2 : n ≤ 9223372036854775807) : Dk (w.setCell ⟨g, 2, none⟩ (.int .i64 n)) g L q ⟨s.last, s.buf, n⟩ := by
  have ho := h
  obtain ⟨ok, cap, v, hg, hL, hB, rfl⟩ := h
  refine ⟨⟨ok.sec, ok.wr, ok.pos, ok.most, h1, h2⟩, cap, v, heap_setCell_at hg 2 _, own_keep hL (fun b hb => ?_), own_keep hB (fun b hb => ?_), rfl⟩
  · refine Below.heap_setCell _ _ _ _ (fun e => ?_)
    subst e
    simp [Value.ownBlock] at hb
    subst hb
    obtain ⟨cur, hc, _⟩ := own_block hL
    rw [hc] at hg
    injection hg with hg
    injection hg with _ hg
    cases hg
  · refine Below.heap_setCell _ _ _ _ (fun e => ?_)
    subst e
    rcases hB.2 with ⟨rfl, _⟩ | ⟨g', cap', cur, rfl, _, hc, _⟩
    · cases hb
    · injection hb with hb
      simp only at hb
      subst hb
      rw [hc] at hg
      injection hg with hg
      injection hg with _ hg
      cases hg

theorem count_any (w : World) (g L : Nat) (q : Option Nat) (s : D) (h : Dk w g L q s) : Calls Try.prog 77 #[.pointer (some ⟨g, 0, none⟩)] w fun e w' => e = .returned (.tuple #[]) ∧ Dk w' g L q ⟨s.last, s.buf, tick s.left⟩ ∧ Chg (Foot g L q) w w' := by
  have H := Lib.hid h
  obtain ⟨cap, A, c, hg, _, _, _⟩ := h.form
  obtain ⟨_, _, c2, f⟩ := box_cells hg
  have f2 := f 2
  have lo := h.ok.lo
  have hi := h.ok.hi
  clear h hg f
  by_cases h0 : 0 < s.left
  · go_enter Try.func77, Try.ntmps77
    go_wp2
    go_end0
    unfold tick
    rw [if_pos h0]
    refine ⟨rfl, ?_, (Chg.refl _ _).setCell (.inl (.inl rfl)) _⟩
    exact H.out.left_ _ (by omega) (by omega)
  · go_enter Try.func77, Try.ntmps77
    go_wp2
    go_end0
    unfold tick
    rw [if_neg (by omega)]
    exact ⟨rfl, H.out, Chg.refl _ _⟩

theorem arm_any (w : World) (g L : Nat) (q : Option Nat) (s : D) (h : Dk w g L q s) (n : Int) (h1 : -9223372036854775808 ≤ n) (h2 : n ≤ 9223372036854775807) : Calls Try.prog 12 #[.pointer (some ⟨g, 0, none⟩), .int .i64 n] w fun e w' => e = .returned (.tuple #[]) ∧ After w w' g L q (s.aSt n) := by
  have H := Lib.hid h
  have HD := Lib.hid (down_any w g L q s h)
  obtain ⟨cap, A, c, hg, _, _, _⟩ := h.form
  obtain ⟨_, _, c2, f⟩ := box_cells hg
  have f2 := f 2
  clear h hg f
  by_cases h0 : s.left = 0
  · go_enter Try.func12, Try.ntmps12
    go_wp2_with (go_at_call 32; refine HD.out.mono ?_; rintro e w1 ⟨rfl, rfl⟩)
    refine bodyPost_ret (results_none rfl _ _ _) rfl ?_
    unfold D.aSt
    rw [if_pos h0]
    exact ⟨rfl, After.same H.out (Below.refl _ _)⟩
  · go_enter Try.func12, Try.ntmps12
    go_wp2_with (go_at_call 32; refine HD.out.mono ?_; rintro e w1 ⟨rfl, rfl⟩)
    go_end0
    unfold D.aSt
    rw [if_neg h0]
    exact ⟨rfl, q, H.out.left_ _ h1 h2, (Chg.refl _ _).setCell (.inl (.inl rfl)) _, fun _ h => .inl h⟩
end Go.Proofs.Ytbfhlleipeipbaa
