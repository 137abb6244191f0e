/-
  What is proved: what the document's own function that fills bytes up to a sector answers.
-/
import Derived.Test.YtkghjgpeobacjaaJl
import Derived.OwnWalk
namespace Go.Proofs.Ytkghjgpeobacjaa
open Go.RowKit

/-- a sector of bytes in new memory -/
def WholePost (w : World) (l : List UInt8) (e : Ending) (w' : World) : Prop := ∃ k, e = .returned (.slice (some ⟨k, 0, none⟩) 64 64) ∧ w.heap.size ≤ k ∧ w'.heap[k]? = some (.cells (bv l).toArray 5 (0, 0)) ∧ Below w.heap.size w w'
theorem made_zeros (n : Nat) : (madeCells (Value.int .u8 0).cells (n * 1)).toList = bv (List.replicate n 0) := by
  rw [bv_rep, Nat.mul_one]
  unfold madeCells
  have hz : (Value.int .u8 0).cells = #[.int .u8 0] := rfl
  rw [hz]
  apply List.ext_getElem?
  intro i
  simp only [Array.toList_map, Array.toList_range, List.getElem?_map, List.getElem?_replicate]
  by_cases hi : i < n
  · rw [List.getElem?_range hi, if_pos hi, Option.map_some]
    simp [Nat.mod_one]
  · rw [List.getElem?_eq_none (by simpa using hi), if_neg hi]
    rfl
theorem zeros_block {w w1 : World} (h : w1.ownsRow 0 5 1 (.slice (some ⟨w.heap.size, 0, none⟩) 64 64) 64 (bv (List.replicate 64 0))) : w1.heap[w.heap.size]? = some (.cells (bv zer).toArray 5 (0, 0)) := by
  obtain ⟨cur, hg, _, _, hs, ht⟩ := own_block h
  have : cur.toList = bv zer := by
    have hl : cur.toList.length = 64 := by simpa using hs
    rw [List.take_of_length_le (by omega)] at ht
    exact ht
  rw [hg]
  congr 2
  rw [← this]
theorem splice_zer (l : List UInt8) : splice (bv zer) 0 (bv l) = bv (pad l) := by
  unfold splice pad
  rw [List.take_zero, List.nil_append, bv_append, Nat.zero_add, bv_length]
  congr 1
  unfold bv zer
  rw [List.map_replicate, List.map_replicate, List.drop_replicate]

set_option maxRecDepth 100000 in
set_option maxHeartbeats 1000000 in
theorem whole_any (w : World) (A : Option Addr) (n c : Nat) (l : List UInt8) (h : Hold w A n c l) (hn : n ≤ 64) : Calls Try.prog 45 #[.slice A n c] w (WholePost w (pad l)) := by
  obtain ⟨i0, hi0, hz0, hz1, hz2⟩ := info_parts Try.info5
  have HL := Lib.hid h
  have hll := Lib.hid h.1
  clear h
  go_enter Try.func45, Try.ntmps45
  go_wp2_with (first
    | (at_make; refine wpList_make_full w rfl (.const (.int .i64 64)) (.const (.int .i64 64)) 37 rfl 0 5 i0 _ 1 Try.underlying37 hi0 hz0 hz1 .i64 .i64 64 64 64 rfl rfl rfl rfl (by rw [hz2]; omega) (by unfold maxLen; omega) (by omega) ?_; intro w2 hown hgrow; rw [made_zeros] at hown; have G1 := Lib.hid (zeros_block hown); have G2 : Hid (Below w.heap.size w w2) := (Below.refl _ _).grown hgrow (Nat.le_refl _) (fun _ h => by cases h); clear hown hgrow)
    | (with_reducible refine wpList_copy_cells rfl (.tmp 5) (.tmp 6) 37 37 rfl 5 Try.underlying37 (by kernel_rfl) _ _ _ _ _ _ rfl rfl w.heap.size 0 (bv l) ?c1 ?c2 ?c3 (bv_one l) ?c4))
  case c1 => rw [bv_length, hll.out]; exact (Nat.min_eq_left hn).symm
  case c2 =>
    intro h0
    have H1 := HL.out.below G2.out
    obtain ⟨b0, off, e, _⟩ := H1.2.2.2 (by rw [bv_length, hll.out] at h0; exact h0)
    exact ⟨_, e, H1.cells _ e⟩
  case c3 => exact (fill_more G2.out G1.out 0 (bv l) (by rw [bv_length, hll.out]; show 0 + n ≤ 64; omega)).2.2
  obtain ⟨x1, x2, _⟩ := fill_more G2.out G1.out 0 (bv l) (by rw [bv_length, hll.out]; show 0 + n ≤ 64; omega)
  rw [splice_zer] at x1
  go_ret
  exact ⟨_, rfl, Nat.le_refl _, x1, x2⟩
end Go.Proofs.Ytkghjgpeobacjaa
