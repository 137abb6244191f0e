/-
  What is proved: what New and Clone answer, told by the disk as lists.
-/
import Derived.Test.YtbfhlleipeipbaaPut
import Derived.OwnWalk
namespace Go.Proofs.Ytbfhlleipeipbaa
open Go.RowKit

theorem Try.info64 : (Try.prog.info? 88).map (fun i => (i.zero, i.size, i.bytes)) = some (some (.agg (bv zer).toArray), 64, 64) := by kernel_rfl
theorem flat_rep {α : Type} (k : Nat) (x : α) : ∀ n, (List.replicate n (List.replicate k x)).flatten = List.replicate (n * k) x
  | 0 => by simp
  | n + 1 => by rw [List.replicate_succ, List.flatten_cons, flat_rep k x n, List.replicate_append_replicate, Nat.succ_mul, Nat.add_comm]
theorem bv_rep (n : Nat) (b : UInt8) : bv (List.replicate n b) = List.replicate n (.int .u8 (b.toNat : Int)) := by
  unfold bv; rw [List.map_replicate]
theorem secV_new (n : Nat) : secV (List.replicate n zer) = List.replicate (n * 64) (.int .u8 0) := by
  unfold secV zer
  rw [List.map_replicate, bv_rep]
  exact flat_rep 64 _ n
theorem made_new (n : Nat) : (madeCells (Value.agg (bv zer).toArray).cells (n * 64)).toList = secV (List.replicate n zer) := by
  rw [secV_new]
  unfold madeCells
  have hz : (Value.agg (bv zer).toArray).cells = Array.replicate 64 (.int .u8 0) := by
    show (bv zer).toArray = _
    unfold zer
    rw [bv_rep]
    exact List.toArray_replicate 64 _
  rw [hz]
  apply List.ext_getElem?
  intro i
  simp only [Array.toList_map, Array.toList_range, List.getElem?_map, List.getElem?_replicate]
  by_cases hi : i < n * 64
  · rw [List.getElem?_range hi, if_pos hi, Option.map_some]
    have hm : i % 64 < 64 := Nat.mod_lt _ (by omega)
    simp [hm]
  · rw [List.getElem?_eq_none (by simpa using hi), if_neg hi]
    rfl
/-- what New answers -/
def NewPost (w : World) (n : Nat) (e : Ending) (w' : World) : Prop :=
  ∃ g L, e = .returned (.pointer (some ⟨g, 0, none⟩)) ∧ Dk w' g L none (newSt n) ∧ Below w.heap.size w w' ∧ w.heap.size ≤ g ∧ w.heap.size ≤ L
theorem new_fin {w w1 : World} {n : Nat} (h1 : 1 ≤ n) (h2 : n ≤ 65536) (hown : w1.ownsRow 0 88 64 (.slice (some ⟨w.heap.size, 0, none⟩) n n) n (secV (List.replicate n zer))) (hg : w.grownBy w1 none) :
    NewPost w n (.returned (.pointer (some ⟨w1.heap.size, 0, none⟩))) (w1.alloc (.cells #[.slice (some ⟨w.heap.size, 0, none⟩) n n, .slice none 0 0, .int .i64 (-1)] 61)) := by
  have hb : Below w.heap.size w w1 := (Below.refl _ _).grown hg (Nat.le_refl _) (fun _ h => by cases h)
  refine ⟨w1.heap.size, w.heap.size, rfl, ⟨newSt_ok n h1 h2, n, .slice none 0 0, ?_, ?_, World.ownsRow_nil _ _ _ _, rfl⟩, hb.alloc hb.size _, hb.size, Nat.le_refl _⟩
  · rw [heap_alloc_new]
    simp [newSt]
  · have := hown.alloc (.cells #[.slice (some ⟨w.heap.size, 0, none⟩) n n, .slice none 0 0, .int .i64 (-1)] 61)
    simpa [newSt] using this

set_option maxRecDepth 100000 in
set_option maxHeartbeats 1000000 in
theorem new_any (w : World) (n : Int) : Calls Try.prog 8 #[.int .i64 n] w (NewPost w (newN n)) := by
  obtain ⟨i0, hi0, hz0, hz1, hz2⟩ := info_parts Try.info64
  have hn : min (max n 1) 65536 = ((newN n : Nat) : Int) := by unfold newN; omega
  have hn1 : 1 ≤ newN n := by unfold newN; omega
  have hn2 : newN n ≤ 65536 := by unfold newN; omega
  have HN := Lib.hid hn
  have HM := Lib.hid (made_new (newN n))
  clear hn
  generalize newN n = k at *
  go_enter Try.func8, Try.ntmps8
  go_wp2_with fail
  refine (clamp_any n 1 65536 w).mono ?_
  rintro e w1 ⟨rfl, rfl⟩
  rw [HN.out]
  go_wp2_with (at_make; refine wpList_make_full w1 rfl (.tmp 6) (.tmp 6) 58 rfl 0 88 i0 _ 64 Try.underlying58 hi0 hz0 hz1 .i64 .i64 (k : Int) (k : Int) k rfl rfl rfl rfl (by rw [hz2]; omega) (by unfold maxLen; omega) (by omega) ?_; intro w2 hown hgrow; rw [HM.out] at hown; have HO := Lib.hid hown; have HG := Lib.hid hgrow; clear hown hgrow)
  go_ret
  exact new_fin hn1 hn2 HO.out HG.out
end Go.Proofs.Ytbfhlleipeipbaa
