/-
  What is proved: contracts of markup's referenceTo, refer, Escape and Quote. Conditions: those in each statement.
-/
import Derived.Test.YtbokcihlbpeagaaGreatDoorNl
import Derived.Test.YtbokcihlbpeagaaGreatDoorSl
namespace Go.Proofs.YtbokcihlbpeagaaGreatDoor
open Go.RowKit

theorem itoa_9 (W : World) : Calls Tryz.prog 69 #[.int .i64 9] W fun e w' => e = .returned (.string ⟨#[57]⟩) ∧ W = w' := by
  refine (Tryz.strconv_Itoa_small 9 (by decide) W).mono ?_
  rintro e w' ⟨rfl, rfl⟩
  exact ⟨by rw [show Lib.decDigits 9 = [57] by decide +kernel], rfl⟩
theorem itoa_10 (W : World) : Calls Tryz.prog 69 #[.int .i64 10] W fun e w' => e = .returned (.string ⟨#[49, 48]⟩) ∧ W = w' := by
  refine (Tryz.strconv_Itoa_small 10 (by decide) W).mono ?_
  rintro e w' ⟨rfl, rfl⟩
  exact ⟨by rw [show Lib.decDigits 10 = [49, 48] by decide +kernel], rfl⟩
theorem itoa_13 (W : World) : Calls Tryz.prog 69 #[.int .i64 13] W fun e w' => e = .returned (.string ⟨#[49, 51]⟩) ∧ W = w' := by
  refine (Tryz.strconv_Itoa_small 13 (by decide) W).mono ?_
  rintro e w' ⟨rfl, rfl⟩
  exact ⟨by rw [show Lib.decDigits 13 = [49, 51] by decide +kernel], rfl⟩
set_option maxHeartbeats 1000000 in
set_option maxRecDepth 100000 in
theorem refTo_60 (w : World) (hG : Glob w) : Calls Tryz.prog 51 #[.int .u8 60] w (StrPost w [38, 108, 116, 59]) := by
  have c0 : w.cell? ⟨0, 0, none⟩ = some (.string ⟨#[38, 108, 116]⟩) := hG.ent 0 _ rfl
  have c1 : w.cell? ⟨0, 1, none⟩ = some (.string ⟨#[60]⟩) := hG.ent 1 _ rfl
  have c2 : w.cell? ⟨0, 2, none⟩ = some (.string ⟨#[38, 103, 116]⟩) := hG.ent 2 _ rfl
  have c3 : w.cell? ⟨0, 3, none⟩ = some (.string ⟨#[62]⟩) := hG.ent 3 _ rfl
  have c4 : w.cell? ⟨0, 4, none⟩ = some (.string ⟨#[38, 97, 109, 112]⟩) := hG.ent 4 _ rfl
  have c5 : w.cell? ⟨0, 5, none⟩ = some (.string ⟨#[38]⟩) := hG.ent 5 _ rfl
  have c6 : w.cell? ⟨0, 6, none⟩ = some (.string ⟨#[38, 97, 112, 111, 115]⟩) := hG.ent 6 _ rfl
  have c7 : w.cell? ⟨0, 7, none⟩ = some (.string ⟨#[39]⟩) := hG.ent 7 _ rfl
  have c8 : w.cell? ⟨0, 8, none⟩ = some (.string ⟨#[38, 113, 117, 111, 116]⟩) := hG.ent 8 _ rfl
  have c9 : w.cell? ⟨0, 9, none⟩ = some (.string ⟨#[34]⟩) := hG.ent 9 _ rfl
  have i0 := idx_ent0
  have i1 := idx_ent1
  have i2 := idx_ent2
  have i3 := idx_ent3
  have i4 := idx_ent4
  clear hG
  go_enter Tryz.func51, Tryz.ntmps51
  go_wp2
  refine wp_loop_rounds 1 ?_
  rw [rounds_succ]
  go_wp2
  go_ret
  exact ⟨rfl, by repeat (first | exact Below.refl _ _ | apply Below.drew | (refine Below.alloc ?_ (by simp; try omega) _))⟩
set_option maxHeartbeats 1000000 in
set_option maxRecDepth 100000 in
theorem refTo_62 (w : World) (hG : Glob w) : Calls Tryz.prog 51 #[.int .u8 62] w (StrPost w [38, 103, 116, 59]) := by
  have c0 : w.cell? ⟨0, 0, none⟩ = some (.string ⟨#[38, 108, 116]⟩) := hG.ent 0 _ rfl
  have c1 : w.cell? ⟨0, 1, none⟩ = some (.string ⟨#[60]⟩) := hG.ent 1 _ rfl
  have c2 : w.cell? ⟨0, 2, none⟩ = some (.string ⟨#[38, 103, 116]⟩) := hG.ent 2 _ rfl
  have c3 : w.cell? ⟨0, 3, none⟩ = some (.string ⟨#[62]⟩) := hG.ent 3 _ rfl
  have c4 : w.cell? ⟨0, 4, none⟩ = some (.string ⟨#[38, 97, 109, 112]⟩) := hG.ent 4 _ rfl
  have c5 : w.cell? ⟨0, 5, none⟩ = some (.string ⟨#[38]⟩) := hG.ent 5 _ rfl
  have c6 : w.cell? ⟨0, 6, none⟩ = some (.string ⟨#[38, 97, 112, 111, 115]⟩) := hG.ent 6 _ rfl
  have c7 : w.cell? ⟨0, 7, none⟩ = some (.string ⟨#[39]⟩) := hG.ent 7 _ rfl
  have c8 : w.cell? ⟨0, 8, none⟩ = some (.string ⟨#[38, 113, 117, 111, 116]⟩) := hG.ent 8 _ rfl
  have c9 : w.cell? ⟨0, 9, none⟩ = some (.string ⟨#[34]⟩) := hG.ent 9 _ rfl
  have i0 := idx_ent0
  have i1 := idx_ent1
  have i2 := idx_ent2
  have i3 := idx_ent3
  have i4 := idx_ent4
  clear hG
  go_enter Tryz.func51, Tryz.ntmps51
  go_wp2
  refine wp_loop_rounds 2 ?_
  rw [rounds_succ]
  go_wp2
  rw [rounds_succ]
  go_wp2
  go_ret
  exact ⟨rfl, by repeat (first | exact Below.refl _ _ | apply Below.drew | (refine Below.alloc ?_ (by simp; try omega) _))⟩
set_option maxHeartbeats 1000000 in
set_option maxRecDepth 100000 in
theorem refTo_38 (w : World) (hG : Glob w) : Calls Tryz.prog 51 #[.int .u8 38] w (StrPost w [38, 97, 109, 112, 59]) := by
  have c0 : w.cell? ⟨0, 0, none⟩ = some (.string ⟨#[38, 108, 116]⟩) := hG.ent 0 _ rfl
  have c1 : w.cell? ⟨0, 1, none⟩ = some (.string ⟨#[60]⟩) := hG.ent 1 _ rfl
  have c2 : w.cell? ⟨0, 2, none⟩ = some (.string ⟨#[38, 103, 116]⟩) := hG.ent 2 _ rfl
  have c3 : w.cell? ⟨0, 3, none⟩ = some (.string ⟨#[62]⟩) := hG.ent 3 _ rfl
  have c4 : w.cell? ⟨0, 4, none⟩ = some (.string ⟨#[38, 97, 109, 112]⟩) := hG.ent 4 _ rfl
  have c5 : w.cell? ⟨0, 5, none⟩ = some (.string ⟨#[38]⟩) := hG.ent 5 _ rfl
  have c6 : w.cell? ⟨0, 6, none⟩ = some (.string ⟨#[38, 97, 112, 111, 115]⟩) := hG.ent 6 _ rfl
  have c7 : w.cell? ⟨0, 7, none⟩ = some (.string ⟨#[39]⟩) := hG.ent 7 _ rfl
  have c8 : w.cell? ⟨0, 8, none⟩ = some (.string ⟨#[38, 113, 117, 111, 116]⟩) := hG.ent 8 _ rfl
  have c9 : w.cell? ⟨0, 9, none⟩ = some (.string ⟨#[34]⟩) := hG.ent 9 _ rfl
  have i0 := idx_ent0
  have i1 := idx_ent1
  have i2 := idx_ent2
  have i3 := idx_ent3
  have i4 := idx_ent4
  clear hG
  go_enter Tryz.func51, Tryz.ntmps51
  go_wp2
  refine wp_loop_rounds 3 ?_
  rw [rounds_succ]
  go_wp2
  rw [rounds_succ]
  go_wp2
  rw [rounds_succ]
  go_wp2
  go_ret
  exact ⟨rfl, by repeat (first | exact Below.refl _ _ | apply Below.drew | (refine Below.alloc ?_ (by simp; try omega) _))⟩
set_option maxHeartbeats 1000000 in
set_option maxRecDepth 100000 in
theorem refTo_34 (w : World) (hG : Glob w) : Calls Tryz.prog 51 #[.int .u8 34] w (StrPost w [38, 113, 117, 111, 116, 59]) := by
  have c0 : w.cell? ⟨0, 0, none⟩ = some (.string ⟨#[38, 108, 116]⟩) := hG.ent 0 _ rfl
  have c1 : w.cell? ⟨0, 1, none⟩ = some (.string ⟨#[60]⟩) := hG.ent 1 _ rfl
  have c2 : w.cell? ⟨0, 2, none⟩ = some (.string ⟨#[38, 103, 116]⟩) := hG.ent 2 _ rfl
  have c3 : w.cell? ⟨0, 3, none⟩ = some (.string ⟨#[62]⟩) := hG.ent 3 _ rfl
  have c4 : w.cell? ⟨0, 4, none⟩ = some (.string ⟨#[38, 97, 109, 112]⟩) := hG.ent 4 _ rfl
  have c5 : w.cell? ⟨0, 5, none⟩ = some (.string ⟨#[38]⟩) := hG.ent 5 _ rfl
  have c6 : w.cell? ⟨0, 6, none⟩ = some (.string ⟨#[38, 97, 112, 111, 115]⟩) := hG.ent 6 _ rfl
  have c7 : w.cell? ⟨0, 7, none⟩ = some (.string ⟨#[39]⟩) := hG.ent 7 _ rfl
  have c8 : w.cell? ⟨0, 8, none⟩ = some (.string ⟨#[38, 113, 117, 111, 116]⟩) := hG.ent 8 _ rfl
  have c9 : w.cell? ⟨0, 9, none⟩ = some (.string ⟨#[34]⟩) := hG.ent 9 _ rfl
  have i0 := idx_ent0
  have i1 := idx_ent1
  have i2 := idx_ent2
  have i3 := idx_ent3
  have i4 := idx_ent4
  clear hG
  go_enter Tryz.func51, Tryz.ntmps51
  go_wp2
  refine wp_loop_rounds 5 ?_
  rw [rounds_succ]
  go_wp2
  rw [rounds_succ]
  go_wp2
  rw [rounds_succ]
  go_wp2
  rw [rounds_succ]
  go_wp2
  rw [rounds_succ]
  go_wp2
  go_ret
  exact ⟨rfl, by repeat (first | exact Below.refl _ _ | apply Below.drew | (refine Below.alloc ?_ (by simp; try omega) _))⟩
set_option maxHeartbeats 1000000 in
set_option maxRecDepth 100000 in
theorem refTo_9 (w : World) (hG : Glob w) : Calls Tryz.prog 51 #[.int .u8 9] w (StrPost w [38, 35, 57, 59]) := by
  have c0 : w.cell? ⟨0, 0, none⟩ = some (.string ⟨#[38, 108, 116]⟩) := hG.ent 0 _ rfl
  have c1 : w.cell? ⟨0, 1, none⟩ = some (.string ⟨#[60]⟩) := hG.ent 1 _ rfl
  have c2 : w.cell? ⟨0, 2, none⟩ = some (.string ⟨#[38, 103, 116]⟩) := hG.ent 2 _ rfl
  have c3 : w.cell? ⟨0, 3, none⟩ = some (.string ⟨#[62]⟩) := hG.ent 3 _ rfl
  have c4 : w.cell? ⟨0, 4, none⟩ = some (.string ⟨#[38, 97, 109, 112]⟩) := hG.ent 4 _ rfl
  have c5 : w.cell? ⟨0, 5, none⟩ = some (.string ⟨#[38]⟩) := hG.ent 5 _ rfl
  have c6 : w.cell? ⟨0, 6, none⟩ = some (.string ⟨#[38, 97, 112, 111, 115]⟩) := hG.ent 6 _ rfl
  have c7 : w.cell? ⟨0, 7, none⟩ = some (.string ⟨#[39]⟩) := hG.ent 7 _ rfl
  have c8 : w.cell? ⟨0, 8, none⟩ = some (.string ⟨#[38, 113, 117, 111, 116]⟩) := hG.ent 8 _ rfl
  have c9 : w.cell? ⟨0, 9, none⟩ = some (.string ⟨#[34]⟩) := hG.ent 9 _ rfl
  have i0 := idx_ent0
  have i1 := idx_ent1
  have i2 := idx_ent2
  have i3 := idx_ent3
  have i4 := idx_ent4
  clear hG
  go_enter Tryz.func51, Tryz.ntmps51
  go_wp2
  refine wp_loop_rounds 6 ?_
  rw [rounds_succ]
  go_wp2
  rw [rounds_succ]
  go_wp2
  rw [rounds_succ]
  go_wp2
  rw [rounds_succ]
  go_wp2
  rw [rounds_succ]
  go_wp2
  rw [rounds_succ]
  go_wp2_with (go_at_call 69; refine (itoa_9 _).mono ?_; rintro e w2 ⟨rfl, rfl⟩)
  go_ret
  exact ⟨rfl, by repeat (first | exact Below.refl _ _ | apply Below.drew | (refine Below.alloc ?_ (by simp; try omega) _))⟩
set_option maxHeartbeats 1000000 in
set_option maxRecDepth 100000 in
theorem refTo_10 (w : World) (hG : Glob w) : Calls Tryz.prog 51 #[.int .u8 10] w (StrPost w [38, 35, 49, 48, 59]) := by
  have c0 : w.cell? ⟨0, 0, none⟩ = some (.string ⟨#[38, 108, 116]⟩) := hG.ent 0 _ rfl
  have c1 : w.cell? ⟨0, 1, none⟩ = some (.string ⟨#[60]⟩) := hG.ent 1 _ rfl
  have c2 : w.cell? ⟨0, 2, none⟩ = some (.string ⟨#[38, 103, 116]⟩) := hG.ent 2 _ rfl
  have c3 : w.cell? ⟨0, 3, none⟩ = some (.string ⟨#[62]⟩) := hG.ent 3 _ rfl
  have c4 : w.cell? ⟨0, 4, none⟩ = some (.string ⟨#[38, 97, 109, 112]⟩) := hG.ent 4 _ rfl
  have c5 : w.cell? ⟨0, 5, none⟩ = some (.string ⟨#[38]⟩) := hG.ent 5 _ rfl
  have c6 : w.cell? ⟨0, 6, none⟩ = some (.string ⟨#[38, 97, 112, 111, 115]⟩) := hG.ent 6 _ rfl
  have c7 : w.cell? ⟨0, 7, none⟩ = some (.string ⟨#[39]⟩) := hG.ent 7 _ rfl
  have c8 : w.cell? ⟨0, 8, none⟩ = some (.string ⟨#[38, 113, 117, 111, 116]⟩) := hG.ent 8 _ rfl
  have c9 : w.cell? ⟨0, 9, none⟩ = some (.string ⟨#[34]⟩) := hG.ent 9 _ rfl
  have i0 := idx_ent0
  have i1 := idx_ent1
  have i2 := idx_ent2
  have i3 := idx_ent3
  have i4 := idx_ent4
  clear hG
  go_enter Tryz.func51, Tryz.ntmps51
  go_wp2
  refine wp_loop_rounds 6 ?_
  rw [rounds_succ]
  go_wp2
  rw [rounds_succ]
  go_wp2
  rw [rounds_succ]
  go_wp2
  rw [rounds_succ]
  go_wp2
  rw [rounds_succ]
  go_wp2
  rw [rounds_succ]
  go_wp2_with (go_at_call 69; refine (itoa_10 _).mono ?_; rintro e w2 ⟨rfl, rfl⟩)
  go_ret
  exact ⟨rfl, by repeat (first | exact Below.refl _ _ | apply Below.drew | (refine Below.alloc ?_ (by simp; try omega) _))⟩
set_option maxHeartbeats 1000000 in
set_option maxRecDepth 100000 in
theorem refTo_13 (w : World) (hG : Glob w) : Calls Tryz.prog 51 #[.int .u8 13] w (StrPost w [38, 35, 49, 51, 59]) := by
  have c0 : w.cell? ⟨0, 0, none⟩ = some (.string ⟨#[38, 108, 116]⟩) := hG.ent 0 _ rfl
  have c1 : w.cell? ⟨0, 1, none⟩ = some (.string ⟨#[60]⟩) := hG.ent 1 _ rfl
  have c2 : w.cell? ⟨0, 2, none⟩ = some (.string ⟨#[38, 103, 116]⟩) := hG.ent 2 _ rfl
  have c3 : w.cell? ⟨0, 3, none⟩ = some (.string ⟨#[62]⟩) := hG.ent 3 _ rfl
  have c4 : w.cell? ⟨0, 4, none⟩ = some (.string ⟨#[38, 97, 109, 112]⟩) := hG.ent 4 _ rfl
  have c5 : w.cell? ⟨0, 5, none⟩ = some (.string ⟨#[38]⟩) := hG.ent 5 _ rfl
  have c6 : w.cell? ⟨0, 6, none⟩ = some (.string ⟨#[38, 97, 112, 111, 115]⟩) := hG.ent 6 _ rfl
  have c7 : w.cell? ⟨0, 7, none⟩ = some (.string ⟨#[39]⟩) := hG.ent 7 _ rfl
  have c8 : w.cell? ⟨0, 8, none⟩ = some (.string ⟨#[38, 113, 117, 111, 116]⟩) := hG.ent 8 _ rfl
  have c9 : w.cell? ⟨0, 9, none⟩ = some (.string ⟨#[34]⟩) := hG.ent 9 _ rfl
  have i0 := idx_ent0
  have i1 := idx_ent1
  have i2 := idx_ent2
  have i3 := idx_ent3
  have i4 := idx_ent4
  clear hG
  go_enter Tryz.func51, Tryz.ntmps51
  go_wp2
  refine wp_loop_rounds 6 ?_
  rw [rounds_succ]
  go_wp2
  rw [rounds_succ]
  go_wp2
  rw [rounds_succ]
  go_wp2
  rw [rounds_succ]
  go_wp2
  rw [rounds_succ]
  go_wp2
  rw [rounds_succ]
  go_wp2_with (go_at_call 69; refine (itoa_13 _).mono ?_; rintro e w2 ⟨rfl, rfl⟩)
  go_ret
  exact ⟨rfl, by repeat (first | exact Below.refl _ _ | apply Below.drew | (refine Below.alloc ?_ (by simp; try omega) _))⟩

/-- the bytes that are written otherwise -/
def TL (v : Bool) : List UInt8 := if v = true then [38, 60, 34, 9, 10, 13] else [38, 60, 62, 13]
theorem swp_out {v : Bool} {b : UInt8} (h : b ∉ TL v) : swp v b = [b] := by
  cases v
  · have h' : b ∉ ([38, 60, 62, 13] : List UInt8) := h
    simp only [List.mem_cons, List.not_mem_nil, or_false, not_or] at h'
    unfold swp
    rw [if_neg h'.1, if_neg h'.2.1, if_neg (fun e => h'.2.2.1 e.1), if_neg h'.2.2.2, if_neg (by simp), if_neg (by simp), if_neg (by simp)]
  · have h' : b ∉ ([38, 60, 34, 9, 10, 13] : List UInt8) := h
    simp only [List.mem_cons, List.not_mem_nil, or_false, not_or] at h'
    unfold swp
    rw [if_neg h'.1, if_neg h'.2.1, if_neg (by simp), if_neg h'.2.2.2.2.2, if_neg (fun e => h'.2.2.1 e.1), if_neg (fun e => h'.2.2.2.1 e.1), if_neg (fun e => h'.2.2.2.2.1 e.1)]
theorem ref_in {v : Bool} {b : UInt8} (h : b ∈ TL v) (w : World) (hG : Glob w) : Calls Tryz.prog 51 #[.int .u8 (b.toNat : Int)] w (StrPost w (swp v b)) := by
  cases v
  · have h' : b ∈ ([38, 60, 62, 13] : List UInt8) := h
    simp only [List.mem_cons, List.not_mem_nil, or_false] at h'
    rcases h' with rfl | rfl | rfl | rfl
    · exact refTo_38 w hG
    · exact refTo_60 w hG
    · exact refTo_62 w hG
    · exact refTo_13 w hG
  · have h' : b ∈ ([38, 60, 34, 9, 10, 13] : List UInt8) := h
    simp only [List.mem_cons, List.not_mem_nil, or_false] at h'
    rcases h' with rfl | rfl | rfl | rfl | rfl | rfl
    · exact refTo_38 w hG
    · exact refTo_60 w hG
    · exact refTo_34 w hG
    · exact refTo_9 w hG
    · exact refTo_10 w hG
    · exact refTo_13 w hG
theorem idx_lt : ∀ (v : Bool) (n : Nat), n < 256 → (Lib.indexByte (TL v) n.toUInt8 < 0 ↔ n.toUInt8 ∉ TL v) := by decide +kernel
theorem idx_b (v : Bool) (b : UInt8) : (Lib.indexByte (TL v) ((b.toNat : Int).toNat.toUInt8) < 0 ↔ b ∉ TL v) := by
  have := idx_lt v b.toNat (UInt8.toNat_lt b)
  rw [Int.toNat_natCast]
  rw [show b.toNat.toUInt8 = b from UInt8.toNat_inj.1 (by simp)] at this ⊢
  exact this
theorem writeB (w : World) (b : Nat) (l : List UInt8) (c : UInt8) (h : Bd w b l) (hl : l.length + 1 ≤ 140737488355328) :
    Calls Tryz.prog 49 #[.pointer (some ⟨b, 0, none⟩), .int .u8 (c.toNat : Int)] w fun e w' => e = .returned .nilIface ∧ Bd w' b (l ++ [c]) ∧ Below b w w' := by
  refine (Any.Builder_WriteByte Tryz.layB167 Tryz.Builder_Extra_167 b b (Lib.byteCells l) (c.toNat : Int) w h (by rw [Lib.byteCells_length]; exact hl) (Nat.le_of_lt h.lt)).mono ?_
  rintro e w' ⟨rfl, h1, h2⟩
  refine ⟨rfl, .inr ?_, h2⟩
  rw [Lib.byteCells_append]
  exact h1
theorem writeS2 (w : World) (b : Nat) (l x : List UInt8) (h : Bd w b l) (hl : l.length + x.length ≤ 140737488355328) :
    Calls Tryz.prog 50 #[.pointer (some ⟨b, 0, none⟩), strV x] w fun e w' => e = .returned (.tuple #[.int .i64 (x.length : Int), .nilIface]) ∧ Bd w' b (l ++ x) ∧ Below b w w' := by
  have hx : (⟨x.toArray⟩ : ByteArray).size = x.length := by rw [← size_toList]
  refine (Any.Builder_WriteString Tryz.layB166 Tryz.Builder_Extra_155 b b (Lib.byteCells l) ⟨x.toArray⟩ w h (by rw [Lib.byteCells_length, hx]; exact hl) (Nat.le_of_lt h.lt)).mono ?_
  rintro e w' ⟨rfl, h1, h2⟩
  refine ⟨by rw [hx], .inr ?_, h2⟩
  rw [Lib.byteCells_append]
  exact h1
theorem Bd.below {w w' : World} {b : Nat} {l : List UInt8} (h : Bd w b l) (hb : Below w.heap.size w w') (h0 : 0 < b) : Bd w' b l := h.mv ((Mv.refl 0 w).below hb (Nat.le_refl _)) h0
set_option maxHeartbeats 2000000 in
set_option maxRecDepth 100000 in
theorem refer_any (t those : ByteArray) (v : Bool) (ht : those.data.toList = TL v) (hs : t.size ≤ 1048576) (w : World) (hG : Glob w) :
    Calls Tryz.prog 31 #[.string t, .string those] w (StrPost w (escO v t.data.toList)) := by
  obtain ⟨F, hF⟩ : ∃ F, F = escO v t.data.toList := ⟨_, rfl⟩
  rw [← hF]
  have HF := Lib.hid hF
  have HG := Lib.hid hG
  have HIX := Lib.hid (fun c W => Tryz.strings_IndexByte those c W)
  rw [ht] at HIX
  obtain ⟨b, hb⟩ : ∃ b, b = w.heap.size := ⟨_, rfl⟩
  have HB0 : Hid (b = w.heap.size ∧ 9 ≤ b) := Lib.hid ⟨hb, by rw [hb]; exact hG.size⟩
  obtain ⟨W0, hW0⟩ : ∃ W0, W0 = w.alloc (.cells #[.pointer none, .slice none 0 0] 79) := ⟨_, rfl⟩
  have HBd : Hid (Bd W0 b [] ∧ Below b w W0) := Lib.hid (by rw [hW0, hb]; exact ⟨Bd.new w, (Below.refl _ _).alloc (Nat.le_refl _) _⟩)
  clear hF hG ht
  go_enter Tryz.func31, Tryz.ntmps31
  go_wp2
  rw [← hW0, ← hb]
  clear hW0 hb
  go_loopg [6, 9] t.size (fun kx _ v9 wr => ∃ (i : Nat) (l : List UInt8), v9 = .int .i64 (i : Int) ∧ i ≤ t.size ∧ l.length ≤ 6 * i ∧ t.size - i ≤ kx ∧ Aside (Bd wr b l) ∧ Aside (F = l ++ escO v (t.data.toList.drop i)) ∧ Aside (Below b w wr))
  case atStart => exact ⟨0, [], rfl, Nat.zero_le _, by simp, by omega, HBd.out.1, HF.out, HBd.out.2⟩
  case round =>
    clear HBd
    obtain ⟨i, l, rfl, hi, hn, hkx, HD, HI, HB⟩ := hrel
    have pi : (0 : Int) ≤ (i : Int) := by omega
    by_cases hlt : i < t.size
    · have hltz : (i : Int) < (t.size : Int) := by omega
      have hcons := nxAt_cons t i hlt
      have HN : Aside (F = (l ++ swp v t[i]) ++ escO v (t.data.toList.drop (i + 1))) := by
        have h1 : F = l ++ escO v (t.data.toList.drop i) := HI
        show _ = _
        rw [h1, hcons, escO_cons, List.append_assoc]
      have hl6 := swp_len v t[i]
      have hix := idx_b v t[i]
      have HX := Lib.hid (fun W => HIX.out (t[i].toNat : Int) W)
      have hnl : Hid ((l ++ swp v t[i]).length ≤ 6 * (i + 1)) := Lib.hid (by rw [List.length_append]; omega)
      by_cases hin : t[i] ∈ TL v
      · have hge : ¬ Lib.indexByte (TL v) ((t[i].toNat : Int).toNat.toUInt8) < 0 := fun h => hix.1 h hin
        have HR := Lib.hid (fun W (hW : Glob W) => ref_in hin W hW)
        have hlw : l.length + (swp v t[i]).length ≤ 140737488355328 := by omega
        have HW := Lib.hid (fun W (hW : Bd W b l) => writeS2 W b l (swp v t[i]) hW hlw)
        clear hix hin hcons HI hl6 hlw
        generalize Lib.indexByte (TL v) ((t[i].toNat : Int).toNat.toUInt8) = Z at *
        generalize swp v t[i] = S at *
        go_wp2_with (first
          | (go_at_call 48; refine (HX.out _).mono ?_; rintro e w2 ⟨rfl, rfl⟩)
          | (go_at_call 51; refine (HR.out _ (HG.out.below HB HB0.out.2)).mono ?_; rintro e w3 ⟨rfl, hb3⟩; have HD3 := Lib.hid (Bd.below HD hb3 (by have := HB0.out.2; omega)); have HB3 := Lib.hid (Below.trans HB (Below.mono hb3 (by have := (Below.size HB); have := HB0.out.1; omega))); clear hb3)
          | (go_at_call 50; refine (HW.out _ HD3.out).mono ?_; rintro e w4 ⟨rfl, hd4, hb4⟩; have HD4 := Lib.hid hd4; have HB4 := Lib.hid (Below.trans HB3.out hb4); clear hd4 hb4))
        go_roundg (t.size - (i + 1))
        case measure => omega
        case rel => exact ⟨i + 1, l ++ S, by go_num, hlt, hnl.out, Nat.le_refl _, HD4.out, HN, HB4.out⟩
      · have hge : Lib.indexByte (TL v) ((t[i].toNat : Int).toNat.toUInt8) < 0 := hix.2 hin
        have hs1 := swp_out hin
        have hlw : l.length + 1 ≤ 140737488355328 := by omega
        have HW := Lib.hid (fun W (hW : Bd W b l) => writeB W b l t[i] hW hlw)
        rw [hs1] at HN hnl
        clear hix hin hcons HI hl6 hlw hs1
        generalize Lib.indexByte (TL v) ((t[i].toNat : Int).toNat.toUInt8) = Z at *
        go_wp2_with (first
          | (go_at_call 48; refine (HX.out _).mono ?_; rintro e w2 ⟨rfl, rfl⟩)
          | (go_at_call 49; refine (HW.out _ HD).mono ?_; rintro e w4 ⟨rfl, hd4, hb4⟩; have HD4 := Lib.hid hd4; have HB4 := Lib.hid (Below.trans HB hb4); clear hd4 hb4))
        go_roundg (t.size - (i + 1))
        case measure => omega
        case rel => exact ⟨i + 1, l ++ [t[i]], by go_num, hlt, hnl.out, Nat.le_refl _, HD4.out, HN, HB4.out⟩
    · obtain rfl : i = t.size := by omega
      have hltz : ¬ (t.size : Int) < (t.size : Int) := by omega
      have HE : Hid (F = l) := Lib.hid (by
        have h1 : F = l ++ escO v (t.data.toList.drop t.size) := HI
        rw [List.drop_of_length_le (by rw [size_toList]; omega)] at h1
        rw [h1]
        exact List.append_nil l)
      have HS := Lib.hid (stringS wr b l HD)
      clear HI
      go_wp2_with (go_at_call 52; refine HS.out.mono ?_; rintro e w4 ⟨rfl, hb4⟩; have HB4 := Lib.hid (Below.trans HB hb4); clear hb4)
      go_ret
      exact ⟨by rw [HE.out]; rfl, by rw [← HB0.out.1]; exact HB4.out⟩
set_option maxRecDepth 100000 in
theorem Escape_any (t : ByteArray) (hs : t.size ≤ 1048576) (w : World) (hG : Glob w) :
    Calls Tryz.prog 10 #[.string t] w (StrPost w (escO false t.data.toList)) := by
  have HR := Lib.hid (refer_any t ⟨#[38, 60, 62, 13]⟩ false rfl hs w hG)
  go_enter Tryz.func10, Tryz.ntmps10
  go_wp2_with (go_at_call 31; refine HR.out.mono ?_; rintro e w2 ⟨rfl, hb⟩)
  go_ret
  exact ⟨rfl, hb⟩
theorem quo_str (l : List UInt8) : (⟨#[34]⟩ : ByteArray) ++ ⟨l.toArray⟩ ++ ⟨#[34]⟩ = ⟨(34 :: l ++ [34]).toArray⟩ := by
  apply str_of
  simp
set_option maxRecDepth 100000 in
theorem Quote_any (t : ByteArray) (hs : t.size ≤ 1048576) (w : World) (hG : Glob w) :
    Calls Tryz.prog 11 #[.string t] w (StrPost w (34 :: escO true t.data.toList ++ [34])) := by
  have HR := Lib.hid (refer_any t ⟨#[38, 60, 34, 9, 10, 13]⟩ true rfl hs w hG)
  have hE := escO_len true t.data.toList
  rw [size_toList] at hE
  generalize escO true t.data.toList = E at *
  have hE1 : ¬ 9223372036854775807 < 1 + E.length := by omega
  have hE2 : ¬ 9223372036854775807 < 1 + E.length + 1 := by omega
  go_enter Tryz.func11, Tryz.ntmps11
  go_wp2_with (go_at_call 31; refine HR.out.mono ?_; rintro e w2 ⟨rfl, hb⟩)
  go_ret
  exact ⟨congrArg (fun x => Ending.returned (Value.string x)) (quo_str E), hb⟩
end Go.Proofs.YtbokcihlbpeagaaGreatDoor
