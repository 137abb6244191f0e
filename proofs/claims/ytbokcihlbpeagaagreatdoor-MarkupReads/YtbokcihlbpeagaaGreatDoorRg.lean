/-
  What is proved: contract of markup's meaning. Conditions: those in each statement.
-/
import Derived.Test.YtbokcihlbpeagaaGreatDoorRf
namespace Go.Proofs.YtbokcihlbpeagaaGreatDoor
open Go.RowKit

theorem idx_ent0 (W : World) : (Instr.index 98 (.agg #[.string ⟨#[38, 108, 116]⟩, .string ⟨#[60]⟩, .string ⟨#[38, 103, 116]⟩, .string ⟨#[62]⟩, .string ⟨#[38, 97, 109, 112]⟩, .string ⟨#[38]⟩, .string ⟨#[38, 97, 112, 111, 115]⟩, .string ⟨#[39]⟩, .string ⟨#[38, 113, 117, 111, 116]⟩, .string ⟨#[34]⟩]) (.int .i64 0)).run Tryz.prog W = .ok (.agg #[.string ⟨#[38, 108, 116]⟩, .string ⟨#[60]⟩]) W := by
  simp [Instr.index, run_underlying Tryz.underlying98, asIntOf, part, Tryz.isAgg97, Tryz.sizeOf97, go_sem]
theorem idx_ent1 (W : World) : (Instr.index 98 (.agg #[.string ⟨#[38, 108, 116]⟩, .string ⟨#[60]⟩, .string ⟨#[38, 103, 116]⟩, .string ⟨#[62]⟩, .string ⟨#[38, 97, 109, 112]⟩, .string ⟨#[38]⟩, .string ⟨#[38, 97, 112, 111, 115]⟩, .string ⟨#[39]⟩, .string ⟨#[38, 113, 117, 111, 116]⟩, .string ⟨#[34]⟩]) (.int .i64 1)).run Tryz.prog W = .ok (.agg #[.string ⟨#[38, 103, 116]⟩, .string ⟨#[62]⟩]) W := by
  simp [Instr.index, run_underlying Tryz.underlying98, asIntOf, part, Tryz.isAgg97, Tryz.sizeOf97, go_sem]
theorem idx_ent2 (W : World) : (Instr.index 98 (.agg #[.string ⟨#[38, 108, 116]⟩, .string ⟨#[60]⟩, .string ⟨#[38, 103, 116]⟩, .string ⟨#[62]⟩, .string ⟨#[38, 97, 109, 112]⟩, .string ⟨#[38]⟩, .string ⟨#[38, 97, 112, 111, 115]⟩, .string ⟨#[39]⟩, .string ⟨#[38, 113, 117, 111, 116]⟩, .string ⟨#[34]⟩]) (.int .i64 2)).run Tryz.prog W = .ok (.agg #[.string ⟨#[38, 97, 109, 112]⟩, .string ⟨#[38]⟩]) W := by
  simp [Instr.index, run_underlying Tryz.underlying98, asIntOf, part, Tryz.isAgg97, Tryz.sizeOf97, go_sem]
theorem idx_ent3 (W : World) : (Instr.index 98 (.agg #[.string ⟨#[38, 108, 116]⟩, .string ⟨#[60]⟩, .string ⟨#[38, 103, 116]⟩, .string ⟨#[62]⟩, .string ⟨#[38, 97, 109, 112]⟩, .string ⟨#[38]⟩, .string ⟨#[38, 97, 112, 111, 115]⟩, .string ⟨#[39]⟩, .string ⟨#[38, 113, 117, 111, 116]⟩, .string ⟨#[34]⟩]) (.int .i64 3)).run Tryz.prog W = .ok (.agg #[.string ⟨#[38, 97, 112, 111, 115]⟩, .string ⟨#[39]⟩]) W := by
  simp [Instr.index, run_underlying Tryz.underlying98, asIntOf, part, Tryz.isAgg97, Tryz.sizeOf97, go_sem]
theorem idx_ent4 (W : World) : (Instr.index 98 (.agg #[.string ⟨#[38, 108, 116]⟩, .string ⟨#[60]⟩, .string ⟨#[38, 103, 116]⟩, .string ⟨#[62]⟩, .string ⟨#[38, 97, 109, 112]⟩, .string ⟨#[38]⟩, .string ⟨#[38, 97, 112, 111, 115]⟩, .string ⟨#[39]⟩, .string ⟨#[38, 113, 117, 111, 116]⟩, .string ⟨#[34]⟩]) (.int .i64 4)).run Tryz.prog W = .ok (.agg #[.string ⟨#[38, 113, 117, 111, 116]⟩, .string ⟨#[34]⟩]) W := by
  simp [Instr.index, run_underlying Tryz.underlying98, asIntOf, part, Tryz.isAgg97, Tryz.sizeOf97, go_sem]
set_option maxRecDepth 100000 in
theorem meaning_0 (w : World) (hG : Glob w) : Calls Tryz.prog 98 #[.string ⟨#[38, 108, 116]⟩] w (StrPost w [60]) := by
  have c0 : w.cell? ⟨0, 0, none⟩ = some (.string ⟨#[38, 108, 116]⟩) := hG.ent 0 _ rfl
  have c1 : w.cell? ⟨0, 1, none⟩ = some (.string ⟨#[60]⟩) := hG.ent 1 _ rfl
  have c2 : w.cell? ⟨0, 2, none⟩ = some (.string ⟨#[38, 103, 116]⟩) := hG.ent 2 _ rfl
  have c3 : w.cell? ⟨0, 3, none⟩ = some (.string ⟨#[62]⟩) := hG.ent 3 _ rfl
  have c4 : w.cell? ⟨0, 4, none⟩ = some (.string ⟨#[38, 97, 109, 112]⟩) := hG.ent 4 _ rfl
  have c5 : w.cell? ⟨0, 5, none⟩ = some (.string ⟨#[38]⟩) := hG.ent 5 _ rfl
  have c6 : w.cell? ⟨0, 6, none⟩ = some (.string ⟨#[38, 97, 112, 111, 115]⟩) := hG.ent 6 _ rfl
  have c7 : w.cell? ⟨0, 7, none⟩ = some (.string ⟨#[39]⟩) := hG.ent 7 _ rfl
  have c8 : w.cell? ⟨0, 8, none⟩ = some (.string ⟨#[38, 113, 117, 111, 116]⟩) := hG.ent 8 _ rfl
  have c9 : w.cell? ⟨0, 9, none⟩ = some (.string ⟨#[34]⟩) := hG.ent 9 _ rfl
  have i0 := idx_ent0
  have i1 := idx_ent1
  have i2 := idx_ent2
  have i3 := idx_ent3
  have i4 := idx_ent4
  clear hG
  go_enter Tryz.func98, Tryz.ntmps98
  go_wp2
  refine wp_loop_rounds 6 ?_
  rw [rounds_succ]
  go_wp2
  go_ret
  exact ⟨rfl, by repeat (first | exact Below.refl _ _ | apply Below.drew | (refine Below.alloc ?_ (by simp; try omega) _))⟩
set_option maxRecDepth 100000 in
theorem meaning_1 (w : World) (hG : Glob w) : Calls Tryz.prog 98 #[.string ⟨#[38, 103, 116]⟩] w (StrPost w [62]) := by
  have c0 : w.cell? ⟨0, 0, none⟩ = some (.string ⟨#[38, 108, 116]⟩) := hG.ent 0 _ rfl
  have c1 : w.cell? ⟨0, 1, none⟩ = some (.string ⟨#[60]⟩) := hG.ent 1 _ rfl
  have c2 : w.cell? ⟨0, 2, none⟩ = some (.string ⟨#[38, 103, 116]⟩) := hG.ent 2 _ rfl
  have c3 : w.cell? ⟨0, 3, none⟩ = some (.string ⟨#[62]⟩) := hG.ent 3 _ rfl
  have c4 : w.cell? ⟨0, 4, none⟩ = some (.string ⟨#[38, 97, 109, 112]⟩) := hG.ent 4 _ rfl
  have c5 : w.cell? ⟨0, 5, none⟩ = some (.string ⟨#[38]⟩) := hG.ent 5 _ rfl
  have c6 : w.cell? ⟨0, 6, none⟩ = some (.string ⟨#[38, 97, 112, 111, 115]⟩) := hG.ent 6 _ rfl
  have c7 : w.cell? ⟨0, 7, none⟩ = some (.string ⟨#[39]⟩) := hG.ent 7 _ rfl
  have c8 : w.cell? ⟨0, 8, none⟩ = some (.string ⟨#[38, 113, 117, 111, 116]⟩) := hG.ent 8 _ rfl
  have c9 : w.cell? ⟨0, 9, none⟩ = some (.string ⟨#[34]⟩) := hG.ent 9 _ rfl
  have i0 := idx_ent0
  have i1 := idx_ent1
  have i2 := idx_ent2
  have i3 := idx_ent3
  have i4 := idx_ent4
  clear hG
  go_enter Tryz.func98, Tryz.ntmps98
  go_wp2
  refine wp_loop_rounds 6 ?_
  rw [rounds_succ]
  go_wp2
  rw [rounds_succ]
  go_wp2
  go_ret
  exact ⟨rfl, by repeat (first | exact Below.refl _ _ | apply Below.drew | (refine Below.alloc ?_ (by simp; try omega) _))⟩
set_option maxRecDepth 100000 in
theorem meaning_2 (w : World) (hG : Glob w) : Calls Tryz.prog 98 #[.string ⟨#[38, 97, 109, 112]⟩] w (StrPost w [38]) := by
  have c0 : w.cell? ⟨0, 0, none⟩ = some (.string ⟨#[38, 108, 116]⟩) := hG.ent 0 _ rfl
  have c1 : w.cell? ⟨0, 1, none⟩ = some (.string ⟨#[60]⟩) := hG.ent 1 _ rfl
  have c2 : w.cell? ⟨0, 2, none⟩ = some (.string ⟨#[38, 103, 116]⟩) := hG.ent 2 _ rfl
  have c3 : w.cell? ⟨0, 3, none⟩ = some (.string ⟨#[62]⟩) := hG.ent 3 _ rfl
  have c4 : w.cell? ⟨0, 4, none⟩ = some (.string ⟨#[38, 97, 109, 112]⟩) := hG.ent 4 _ rfl
  have c5 : w.cell? ⟨0, 5, none⟩ = some (.string ⟨#[38]⟩) := hG.ent 5 _ rfl
  have c6 : w.cell? ⟨0, 6, none⟩ = some (.string ⟨#[38, 97, 112, 111, 115]⟩) := hG.ent 6 _ rfl
  have c7 : w.cell? ⟨0, 7, none⟩ = some (.string ⟨#[39]⟩) := hG.ent 7 _ rfl
  have c8 : w.cell? ⟨0, 8, none⟩ = some (.string ⟨#[38, 113, 117, 111, 116]⟩) := hG.ent 8 _ rfl
  have c9 : w.cell? ⟨0, 9, none⟩ = some (.string ⟨#[34]⟩) := hG.ent 9 _ rfl
  have i0 := idx_ent0
  have i1 := idx_ent1
  have i2 := idx_ent2
  have i3 := idx_ent3
  have i4 := idx_ent4
  clear hG
  go_enter Tryz.func98, Tryz.ntmps98
  go_wp2
  refine wp_loop_rounds 6 ?_
  rw [rounds_succ]
  go_wp2
  rw [rounds_succ]
  go_wp2
  rw [rounds_succ]
  go_wp2
  go_ret
  exact ⟨rfl, by repeat (first | exact Below.refl _ _ | apply Below.drew | (refine Below.alloc ?_ (by simp; try omega) _))⟩
set_option maxRecDepth 100000 in
theorem meaning_3 (w : World) (hG : Glob w) : Calls Tryz.prog 98 #[.string ⟨#[38, 97, 112, 111, 115]⟩] w (StrPost w [39]) := by
  have c0 : w.cell? ⟨0, 0, none⟩ = some (.string ⟨#[38, 108, 116]⟩) := hG.ent 0 _ rfl
  have c1 : w.cell? ⟨0, 1, none⟩ = some (.string ⟨#[60]⟩) := hG.ent 1 _ rfl
  have c2 : w.cell? ⟨0, 2, none⟩ = some (.string ⟨#[38, 103, 116]⟩) := hG.ent 2 _ rfl
  have c3 : w.cell? ⟨0, 3, none⟩ = some (.string ⟨#[62]⟩) := hG.ent 3 _ rfl
  have c4 : w.cell? ⟨0, 4, none⟩ = some (.string ⟨#[38, 97, 109, 112]⟩) := hG.ent 4 _ rfl
  have c5 : w.cell? ⟨0, 5, none⟩ = some (.string ⟨#[38]⟩) := hG.ent 5 _ rfl
  have c6 : w.cell? ⟨0, 6, none⟩ = some (.string ⟨#[38, 97, 112, 111, 115]⟩) := hG.ent 6 _ rfl
  have c7 : w.cell? ⟨0, 7, none⟩ = some (.string ⟨#[39]⟩) := hG.ent 7 _ rfl
  have c8 : w.cell? ⟨0, 8, none⟩ = some (.string ⟨#[38, 113, 117, 111, 116]⟩) := hG.ent 8 _ rfl
  have c9 : w.cell? ⟨0, 9, none⟩ = some (.string ⟨#[34]⟩) := hG.ent 9 _ rfl
  have i0 := idx_ent0
  have i1 := idx_ent1
  have i2 := idx_ent2
  have i3 := idx_ent3
  have i4 := idx_ent4
  clear hG
  go_enter Tryz.func98, Tryz.ntmps98
  go_wp2
  refine wp_loop_rounds 6 ?_
  rw [rounds_succ]
  go_wp2
  rw [rounds_succ]
  go_wp2
  rw [rounds_succ]
  go_wp2
  rw [rounds_succ]
  go_wp2
  go_ret
  exact ⟨rfl, by repeat (first | exact Below.refl _ _ | apply Below.drew | (refine Below.alloc ?_ (by simp; try omega) _))⟩
set_option maxRecDepth 100000 in
theorem meaning_4 (w : World) (hG : Glob w) : Calls Tryz.prog 98 #[.string ⟨#[38, 113, 117, 111, 116]⟩] w (StrPost w [34]) := by
  have c0 : w.cell? ⟨0, 0, none⟩ = some (.string ⟨#[38, 108, 116]⟩) := hG.ent 0 _ rfl
  have c1 : w.cell? ⟨0, 1, none⟩ = some (.string ⟨#[60]⟩) := hG.ent 1 _ rfl
  have c2 : w.cell? ⟨0, 2, none⟩ = some (.string ⟨#[38, 103, 116]⟩) := hG.ent 2 _ rfl
  have c3 : w.cell? ⟨0, 3, none⟩ = some (.string ⟨#[62]⟩) := hG.ent 3 _ rfl
  have c4 : w.cell? ⟨0, 4, none⟩ = some (.string ⟨#[38, 97, 109, 112]⟩) := hG.ent 4 _ rfl
  have c5 : w.cell? ⟨0, 5, none⟩ = some (.string ⟨#[38]⟩) := hG.ent 5 _ rfl
  have c6 : w.cell? ⟨0, 6, none⟩ = some (.string ⟨#[38, 97, 112, 111, 115]⟩) := hG.ent 6 _ rfl
  have c7 : w.cell? ⟨0, 7, none⟩ = some (.string ⟨#[39]⟩) := hG.ent 7 _ rfl
  have c8 : w.cell? ⟨0, 8, none⟩ = some (.string ⟨#[38, 113, 117, 111, 116]⟩) := hG.ent 8 _ rfl
  have c9 : w.cell? ⟨0, 9, none⟩ = some (.string ⟨#[34]⟩) := hG.ent 9 _ rfl
  have i0 := idx_ent0
  have i1 := idx_ent1
  have i2 := idx_ent2
  have i3 := idx_ent3
  have i4 := idx_ent4
  clear hG
  go_enter Tryz.func98, Tryz.ntmps98
  go_wp2
  refine wp_loop_rounds 6 ?_
  rw [rounds_succ]
  go_wp2
  rw [rounds_succ]
  go_wp2
  rw [rounds_succ]
  go_wp2
  rw [rounds_succ]
  go_wp2
  rw [rounds_succ]
  go_wp2
  go_ret
  exact ⟨rfl, by repeat (first | exact Below.refl _ _ | apply Below.drew | (refine Below.alloc ?_ (by simp; try omega) _))⟩
theorem toL (x : ByteArray) : x.toList = x.data.toList := by obtain ⟨⟨l⟩⟩ := x; simp
theorem cutP (x p : ByteArray) (b : Bool) (r : List UInt8) (hr : Lib.trimPrefix x.data.toList p.data.toList = r) (hb : Lib.hasPrefix x.data.toList p.data.toList = b) (w : World) :
    Calls Tryz.prog 60 #[.string x, .string p] w fun e w' => e = .returned (.tuple #[.string ⟨r.toArray⟩, .bool b]) ∧ w = w' := by
  refine (Tryz.strings_CutPrefix x p w).mono ?_
  rintro e w' ⟨rfl, rfl⟩
  exact ⟨by rw [hr, hb], rfl⟩
theorem trim_has {l p : List UInt8} (h : Lib.hasPrefix l p = true) : Lib.trimPrefix l p = l.drop p.length := by unfold Lib.trimPrefix; rw [if_pos h]
set_option maxRecDepth 100000 in
theorem meaning_16 (x : ByteArray) (w : World) (hG : Glob w) (h0 : x.data.toList ≠ ([38, 108, 116] : List UInt8)) (h1 : x.data.toList ≠ ([38, 103, 116] : List UInt8)) (h2 : x.data.toList ≠ ([38, 97, 109, 112] : List UInt8)) (h3 : x.data.toList ≠ ([38, 97, 112, 111, 115] : List UInt8)) (h4 : x.data.toList ≠ ([38, 113, 117, 111, 116] : List UInt8))
    (hp : Lib.hasPrefix x.data.toList [38, 35, 120] = true) : Calls Tryz.prog 98 #[.string x] w (StrPost w (meanN 16 (x.data.toList.drop 3))) := by
  have HC := Lib.hid (cutP x ⟨#[38, 35, 120]⟩ true _ (trim_has hp) hp)
  have HN := Lib.hid (fun W hW => numbered_any ⟨(x.data.toList.drop 3).toArray⟩ 16 (.inr rfl) W hW)
  have c0 : w.cell? ⟨0, 0, none⟩ = some (.string ⟨#[38, 108, 116]⟩) := hG.ent 0 _ rfl
  have c1 : w.cell? ⟨0, 1, none⟩ = some (.string ⟨#[60]⟩) := hG.ent 1 _ rfl
  have c2 : w.cell? ⟨0, 2, none⟩ = some (.string ⟨#[38, 103, 116]⟩) := hG.ent 2 _ rfl
  have c3 : w.cell? ⟨0, 3, none⟩ = some (.string ⟨#[62]⟩) := hG.ent 3 _ rfl
  have c4 : w.cell? ⟨0, 4, none⟩ = some (.string ⟨#[38, 97, 109, 112]⟩) := hG.ent 4 _ rfl
  have c5 : w.cell? ⟨0, 5, none⟩ = some (.string ⟨#[38]⟩) := hG.ent 5 _ rfl
  have c6 : w.cell? ⟨0, 6, none⟩ = some (.string ⟨#[38, 97, 112, 111, 115]⟩) := hG.ent 6 _ rfl
  have c7 : w.cell? ⟨0, 7, none⟩ = some (.string ⟨#[39]⟩) := hG.ent 7 _ rfl
  have c8 : w.cell? ⟨0, 8, none⟩ = some (.string ⟨#[38, 113, 117, 111, 116]⟩) := hG.ent 8 _ rfl
  have c9 : w.cell? ⟨0, 9, none⟩ = some (.string ⟨#[34]⟩) := hG.ent 9 _ rfl
  have i0 := idx_ent0
  have i1 := idx_ent1
  have i2 := idx_ent2
  have i3 := idx_ent3
  have i4 := idx_ent4
  have n0 : (([38, 108, 116] : List UInt8) == x.toList) = false := beq_eq_false_iff_ne.2 (by rw [toL]; exact Ne.symm h0)
  have n1 : (([38, 103, 116] : List UInt8) == x.toList) = false := beq_eq_false_iff_ne.2 (by rw [toL]; exact Ne.symm h1)
  have n2 : (([38, 97, 109, 112] : List UInt8) == x.toList) = false := beq_eq_false_iff_ne.2 (by rw [toL]; exact Ne.symm h2)
  have n3 : (([38, 97, 112, 111, 115] : List UInt8) == x.toList) = false := beq_eq_false_iff_ne.2 (by rw [toL]; exact Ne.symm h3)
  have n4 : (([38, 113, 117, 111, 116] : List UInt8) == x.toList) = false := beq_eq_false_iff_ne.2 (by rw [toL]; exact Ne.symm h4)
  have HG := Lib.hid hG
  clear hp
  clear hG h0 h1 h2 h3 h4
  go_enter Tryz.func98, Tryz.ntmps98
  go_wp2
  refine wp_loop_rounds 6 ?_
  rw [rounds_succ]
  go_wp2
  rw [rounds_succ]
  go_wp2
  rw [rounds_succ]
  go_wp2
  rw [rounds_succ]
  go_wp2
  rw [rounds_succ]
  go_wp2
  rw [rounds_succ]
  go_wp2_with (first
    | (go_at_call 60; refine (HC.out _).mono ?_; rintro e w2 ⟨rfl, rfl⟩)
    | (go_at_call 108; refine (HN.out _ (HG.out.keep (by simp; try omega) (fun b hb => (by repeat (first | exact Below.refl _ _ | apply Below.drew | (refine Below.alloc ?_ (by simp; try omega) _)) : Below w.heap.size w _).block b (Nat.lt_of_lt_of_le hb HG.out.size)))).mono ?_; rintro e w2 ⟨rfl, hb⟩; have HB2 := Lib.hid hb; clear hb))
  go_ret
  exact ⟨rfl, Below.trans (by repeat (first | exact Below.refl _ _ | apply Below.drew | (refine Below.alloc ?_ (by simp; try omega) _))) (HB2.out.mono (by simp; try omega))⟩
set_option maxRecDepth 100000 in
theorem meaning_10 (x : ByteArray) (w : World) (hG : Glob w) (h0 : x.data.toList ≠ ([38, 108, 116] : List UInt8)) (h1 : x.data.toList ≠ ([38, 103, 116] : List UInt8)) (h2 : x.data.toList ≠ ([38, 97, 109, 112] : List UInt8)) (h3 : x.data.toList ≠ ([38, 97, 112, 111, 115] : List UInt8)) (h4 : x.data.toList ≠ ([38, 113, 117, 111, 116] : List UInt8))
    (hp : Lib.hasPrefix x.data.toList [38, 35, 120] = false) (hp2 : Lib.hasPrefix x.data.toList [38, 35] = true) : Calls Tryz.prog 98 #[.string x] w (StrPost w (meanN 10 (x.data.toList.drop 2))) := by
  have HC := Lib.hid (cutP x ⟨#[38, 35, 120]⟩ false _ rfl hp)
  have HC2 := Lib.hid (cutP x ⟨#[38, 35]⟩ true _ (trim_has hp2) hp2)
  have HN := Lib.hid (fun W hW => numbered_any ⟨(x.data.toList.drop 2).toArray⟩ 10 (.inl rfl) W hW)
  have c0 : w.cell? ⟨0, 0, none⟩ = some (.string ⟨#[38, 108, 116]⟩) := hG.ent 0 _ rfl
  have c1 : w.cell? ⟨0, 1, none⟩ = some (.string ⟨#[60]⟩) := hG.ent 1 _ rfl
  have c2 : w.cell? ⟨0, 2, none⟩ = some (.string ⟨#[38, 103, 116]⟩) := hG.ent 2 _ rfl
  have c3 : w.cell? ⟨0, 3, none⟩ = some (.string ⟨#[62]⟩) := hG.ent 3 _ rfl
  have c4 : w.cell? ⟨0, 4, none⟩ = some (.string ⟨#[38, 97, 109, 112]⟩) := hG.ent 4 _ rfl
  have c5 : w.cell? ⟨0, 5, none⟩ = some (.string ⟨#[38]⟩) := hG.ent 5 _ rfl
  have c6 : w.cell? ⟨0, 6, none⟩ = some (.string ⟨#[38, 97, 112, 111, 115]⟩) := hG.ent 6 _ rfl
  have c7 : w.cell? ⟨0, 7, none⟩ = some (.string ⟨#[39]⟩) := hG.ent 7 _ rfl
  have c8 : w.cell? ⟨0, 8, none⟩ = some (.string ⟨#[38, 113, 117, 111, 116]⟩) := hG.ent 8 _ rfl
  have c9 : w.cell? ⟨0, 9, none⟩ = some (.string ⟨#[34]⟩) := hG.ent 9 _ rfl
  have i0 := idx_ent0
  have i1 := idx_ent1
  have i2 := idx_ent2
  have i3 := idx_ent3
  have i4 := idx_ent4
  have n0 : (([38, 108, 116] : List UInt8) == x.toList) = false := beq_eq_false_iff_ne.2 (by rw [toL]; exact Ne.symm h0)
  have n1 : (([38, 103, 116] : List UInt8) == x.toList) = false := beq_eq_false_iff_ne.2 (by rw [toL]; exact Ne.symm h1)
  have n2 : (([38, 97, 109, 112] : List UInt8) == x.toList) = false := beq_eq_false_iff_ne.2 (by rw [toL]; exact Ne.symm h2)
  have n3 : (([38, 97, 112, 111, 115] : List UInt8) == x.toList) = false := beq_eq_false_iff_ne.2 (by rw [toL]; exact Ne.symm h3)
  have n4 : (([38, 113, 117, 111, 116] : List UInt8) == x.toList) = false := beq_eq_false_iff_ne.2 (by rw [toL]; exact Ne.symm h4)
  have HG := Lib.hid hG
  clear hp hp2
  clear hG h0 h1 h2 h3 h4
  go_enter Tryz.func98, Tryz.ntmps98
  go_wp2
  refine wp_loop_rounds 6 ?_
  rw [rounds_succ]
  go_wp2
  rw [rounds_succ]
  go_wp2
  rw [rounds_succ]
  go_wp2
  rw [rounds_succ]
  go_wp2
  rw [rounds_succ]
  go_wp2
  rw [rounds_succ]
  go_wp2_with (first
    | (go_at_call 60; ((with_reducible refine (HC.out _).mono ?_); rintro e w2 ⟨rfl, rfl⟩))
    | (go_at_call 60; ((with_reducible refine (HC2.out _).mono ?_); rintro e w2 ⟨rfl, rfl⟩))
    | (go_at_call 108; refine (HN.out _ (HG.out.keep (by simp; try omega) (fun b hb => (by repeat (first | exact Below.refl _ _ | apply Below.drew | (refine Below.alloc ?_ (by simp; try omega) _)) : Below w.heap.size w _).block b (Nat.lt_of_lt_of_le hb HG.out.size)))).mono ?_; rintro e w2 ⟨rfl, hb⟩; have HB2 := Lib.hid hb; clear hb))
  go_ret
  exact ⟨rfl, Below.trans (by repeat (first | exact Below.refl _ _ | apply Below.drew | (refine Below.alloc ?_ (by simp; try omega) _))) (HB2.out.mono (by simp; try omega))⟩
set_option maxRecDepth 100000 in
theorem meaning_no (x : ByteArray) (w : World) (hG : Glob w) (h0 : x.data.toList ≠ ([38, 108, 116] : List UInt8)) (h1 : x.data.toList ≠ ([38, 103, 116] : List UInt8)) (h2 : x.data.toList ≠ ([38, 97, 109, 112] : List UInt8)) (h3 : x.data.toList ≠ ([38, 97, 112, 111, 115] : List UInt8)) (h4 : x.data.toList ≠ ([38, 113, 117, 111, 116] : List UInt8))
    (hp : Lib.hasPrefix x.data.toList [38, 35, 120] = false) (hp2 : Lib.hasPrefix x.data.toList [38, 35] = false) : Calls Tryz.prog 98 #[.string x] w (StrPost w []) := by
  have HC := Lib.hid (cutP x ⟨#[38, 35, 120]⟩ false _ rfl hp)
  have HC2 := Lib.hid (cutP x ⟨#[38, 35]⟩ false _ rfl hp2)
  have c0 : w.cell? ⟨0, 0, none⟩ = some (.string ⟨#[38, 108, 116]⟩) := hG.ent 0 _ rfl
  have c1 : w.cell? ⟨0, 1, none⟩ = some (.string ⟨#[60]⟩) := hG.ent 1 _ rfl
  have c2 : w.cell? ⟨0, 2, none⟩ = some (.string ⟨#[38, 103, 116]⟩) := hG.ent 2 _ rfl
  have c3 : w.cell? ⟨0, 3, none⟩ = some (.string ⟨#[62]⟩) := hG.ent 3 _ rfl
  have c4 : w.cell? ⟨0, 4, none⟩ = some (.string ⟨#[38, 97, 109, 112]⟩) := hG.ent 4 _ rfl
  have c5 : w.cell? ⟨0, 5, none⟩ = some (.string ⟨#[38]⟩) := hG.ent 5 _ rfl
  have c6 : w.cell? ⟨0, 6, none⟩ = some (.string ⟨#[38, 97, 112, 111, 115]⟩) := hG.ent 6 _ rfl
  have c7 : w.cell? ⟨0, 7, none⟩ = some (.string ⟨#[39]⟩) := hG.ent 7 _ rfl
  have c8 : w.cell? ⟨0, 8, none⟩ = some (.string ⟨#[38, 113, 117, 111, 116]⟩) := hG.ent 8 _ rfl
  have c9 : w.cell? ⟨0, 9, none⟩ = some (.string ⟨#[34]⟩) := hG.ent 9 _ rfl
  have i0 := idx_ent0
  have i1 := idx_ent1
  have i2 := idx_ent2
  have i3 := idx_ent3
  have i4 := idx_ent4
  have n0 : (([38, 108, 116] : List UInt8) == x.toList) = false := beq_eq_false_iff_ne.2 (by rw [toL]; exact Ne.symm h0)
  have n1 : (([38, 103, 116] : List UInt8) == x.toList) = false := beq_eq_false_iff_ne.2 (by rw [toL]; exact Ne.symm h1)
  have n2 : (([38, 97, 109, 112] : List UInt8) == x.toList) = false := beq_eq_false_iff_ne.2 (by rw [toL]; exact Ne.symm h2)
  have n3 : (([38, 97, 112, 111, 115] : List UInt8) == x.toList) = false := beq_eq_false_iff_ne.2 (by rw [toL]; exact Ne.symm h3)
  have n4 : (([38, 113, 117, 111, 116] : List UInt8) == x.toList) = false := beq_eq_false_iff_ne.2 (by rw [toL]; exact Ne.symm h4)
  clear hp hp2
  clear hG h0 h1 h2 h3 h4
  go_enter Tryz.func98, Tryz.ntmps98
  go_wp2
  refine wp_loop_rounds 6 ?_
  rw [rounds_succ]
  go_wp2
  rw [rounds_succ]
  go_wp2
  rw [rounds_succ]
  go_wp2
  rw [rounds_succ]
  go_wp2
  rw [rounds_succ]
  go_wp2
  rw [rounds_succ]
  go_wp2_with (first
    | (go_at_call 60; ((with_reducible refine (HC.out _).mono ?_); rintro e w2 ⟨rfl, rfl⟩))
    | (go_at_call 60; ((with_reducible refine (HC2.out _).mono ?_); rintro e w2 ⟨rfl, rfl⟩)))
  go_ret
  exact ⟨rfl, by repeat (first | exact Below.refl _ _ | apply Below.drew | (refine Below.alloc ?_ (by simp; try omega) _))⟩
theorem str_of {x : ByteArray} {l : List UInt8} (h : x.data.toList = l) : x = ⟨l.toArray⟩ := by obtain ⟨⟨m⟩⟩ := x; cases h; rfl
theorem meaning_any (x : ByteArray) (w : World) (hG : Glob w) : Calls Tryz.prog 98 #[.string x] w (StrPost w (mean x.data.toList)) := by
  unfold mean
  by_cases h0 : x.data.toList = [38, 108, 116]
  · rw [if_pos h0, str_of h0]; exact meaning_0 w hG
  rw [if_neg h0]
  by_cases h1 : x.data.toList = [38, 103, 116]
  · rw [if_pos h1, str_of h1]; exact meaning_1 w hG
  rw [if_neg h1]
  by_cases h2 : x.data.toList = [38, 97, 109, 112]
  · rw [if_pos h2, str_of h2]; exact meaning_2 w hG
  rw [if_neg h2]
  by_cases h3 : x.data.toList = [38, 97, 112, 111, 115]
  · rw [if_pos h3, str_of h3]; exact meaning_3 w hG
  rw [if_neg h3]
  by_cases h4 : x.data.toList = [38, 113, 117, 111, 116]
  · rw [if_pos h4, str_of h4]; exact meaning_4 w hG
  rw [if_neg h4]
  cases hp : Lib.hasPrefix x.data.toList [38, 35, 120] with
  | true => exact meaning_16 x w hG h0 h1 h2 h3 h4 hp
  | false =>
    cases hp2 : Lib.hasPrefix x.data.toList [38, 35] with
    | true => exact meaning_10 x w hG h0 h1 h2 h3 h4 hp hp2
    | false => exact meaning_no x w hG h0 h1 h2 h3 h4 hp hp2
end Go.Proofs.YtbokcihlbpeagaaGreatDoor
