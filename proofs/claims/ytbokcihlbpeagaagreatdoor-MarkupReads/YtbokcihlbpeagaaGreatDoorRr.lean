/-
  What is proved: what holds in the midst of startTag's line that reads an attribute and puts it behind the others. Conditions: those in each statement.
-/
import Derived.Test.YtbokcihlbpeagaaGreatDoorRq
import Derived.Test.YtbokcihlbpeagaaGreatDoorSsd
namespace Go.Proofs.YtbokcihlbpeagaaGreatDoor
open Go.RowKit

/-- startTag's own mark -/
def MkB (w : World) (q : Nat) (nme : List UInt8) (av : Value) (em : Bool) : Prop := w.heap[q]? = some (.cells #[.int .i64 1, .string ⟨nme.toArray⟩, av, .bool em, .string ⟨#[]⟩, .int .i64 0] 36 (0, 0))
section
variable {w w' : World} {q : Nat} {nme : List UInt8} {av : Value} {em : Bool}
theorem MkB.cell (h : MkB w q nme av em) (j : Nat) : w.cell? ⟨q, j, none⟩ = (#[.int .i64 1, .string ⟨nme.toArray⟩, av, .bool em, .string ⟨#[]⟩, .int .i64 0] : Array Value)[j]? := Lib.cell_of_heap h j
theorem MkB.fz (h : MkB w q nme av em) (j : Nat) : w.frozen? ⟨q, j, none⟩ = false := Lib.frozen_of_heap h j
theorem MkB.mv {p : Nat} (h : MkB w q nme av em) (hm : Mv p w w') (hp : q ≠ p) : MkB w' q nme av em := by
  have := heap_lt h
  unfold MkB at h ⊢; rw [hm.block q this hp]; exact h
theorem MkB.set2 (h : MkB w q nme av em) (v : Value) : MkB (w.setCell ⟨q, 2, none⟩ v) q nme v em := heap_setCell_at h 2 v
theorem MkB.set3 (h : MkB w q nme av em) (b : Bool) : MkB (w.setCell ⟨q, 3, none⟩ (.bool b)) q nme av b := heap_setCell_at h 3 (.bool b)
theorem MkB.other (h : MkB w q nme av em) {r : Nat} (hr : q ≠ r) (j : Nat) (v : Value) : MkB (w.setCell ⟨r, j, none⟩ v) q nme av em := by
  unfold MkB at h ⊢; rw [Below.heap_setCell _ _ _ _ hr]; exact h
end
/-- reader, own mark, its attributes -/
structure SB (V W : World) (p : Nat) (s : ByteArray) (i f : Nat) (mv : Value) (q : Nat) (nme : List UInt8) (av : Value) (zs : List At3) : Prop where
  rd : Rd W p s i f mv
  mv : Mv p V W
  blk : MkB W q nme av false
  row : AR W (q + 1) av zs
def slV (Q n cap : Nat) : Value := .slice (some ⟨Q, 0, none⟩) n cap
def atJ (V0 V : World) (p : Nat) (s : ByteArray) (i2 f : Nat) (mv : Value) (q : Nat) (nme : List UInt8) (av : Value) (zs : List At3) (x : At3) (ls : Nat → Bool) (a : Act) (W : World) : Prop :=
  if ls 7 = true then ∃ Q cap, SB V0 W p s i2 f mv q nme (slV Q (zs.length + 1) cap) (zs ++ [x])
  else if ls 5 = true then ∃ Q cap, a.tmps.getD 27 undef = slV Q (zs.length + 1) cap ∧ Rd W p s i2 f mv ∧ Mv p V0 W ∧ MkB W q nme av false ∧ AR W (q + 1) (slV Q (zs.length + 1) cap) (zs ++ [x])
  else if ls 4 = true then (∃ b, a.tmps.getD 26 undef = slV b 1 1 ∧ W.heap[b]? = some (.cells (atC x).toArray 38 (0, 0))) ∧ SB V0 W p s i2 f mv q nme av zs
  else if ls 3 = true then SB V0 W p s i2 f mv q nme av zs
  else W = V
section
variable {V0 V W : World} {p : Nat} {s : ByteArray} {i2 f : Nat} {mv : Value} {q : Nat} {nme : List UInt8} {av : Value} {zs : List At3} {x : At3} {ls : Nat → Bool} {a : Act}
theorem atJ.at0 (h : atJ V0 V p s i2 f mv q nme av zs x ls a W) (h3 : ls 3 = false) (h4 : ls 4 = false) (h5 : ls 5 = false) (h7 : ls 7 = false) : W = V := by
  unfold atJ at h
  rwa [h7, h5, h4, h3, if_neg Bool.false_ne_true, if_neg Bool.false_ne_true, if_neg Bool.false_ne_true, if_neg Bool.false_ne_true] at h
theorem atJ.at3 (h : atJ V0 V p s i2 f mv q nme av zs x ls a W) (h3 : ls 3 = true) (h4 : ls 4 = false) (h5 : ls 5 = false) (h7 : ls 7 = false) : SB V0 W p s i2 f mv q nme av zs := by
  unfold atJ at h
  rwa [h7, h5, h4, h3, if_neg Bool.false_ne_true, if_neg Bool.false_ne_true, if_neg Bool.false_ne_true, if_pos rfl] at h
theorem atJ.at4 (h : atJ V0 V p s i2 f mv q nme av zs x ls a W) (h4 : ls 4 = true) (h5 : ls 5 = false) (h7 : ls 7 = false) : (∃ b, a.tmps.getD 26 undef = slV b 1 1 ∧ W.heap[b]? = some (.cells (atC x).toArray 38 (0, 0))) ∧ SB V0 W p s i2 f mv q nme av zs := by
  unfold atJ at h
  rwa [h7, h5, h4, if_neg Bool.false_ne_true, if_neg Bool.false_ne_true, if_pos rfl] at h
theorem atJ.at5 (h : atJ V0 V p s i2 f mv q nme av zs x ls a W) (h5 : ls 5 = true) (h7 : ls 7 = false) : ∃ Q cap, a.tmps.getD 27 undef = slV Q (zs.length + 1) cap ∧ Rd W p s i2 f mv ∧ Mv p V0 W ∧ MkB W q nme av false ∧ AR W (q + 1) (slV Q (zs.length + 1) cap) (zs ++ [x]) := by
  unfold atJ at h
  rwa [h7, h5, if_neg Bool.false_ne_true, if_pos rfl] at h
theorem atJ.at7 (h : atJ V0 V p s i2 f mv q nme av zs x ls a W) (h7 : ls 7 = true) : ∃ Q cap, SB V0 W p s i2 f mv q nme (slV Q (zs.length + 1) cap) (zs ++ [x]) := by
  unfold atJ at h
  rwa [h7, if_pos rfl] at h
theorem atJ.blk (h : atJ V0 V p s i2 f mv q nme av zs x ls a W) (h0 : MkB V q nme av false) (h5 : ls 5 = false) (h7 : ls 7 = false) : MkB W q nme av false := by
  cases h4 : ls 4 with
  | true => exact (h.at4 h4 h5 h7).2.blk
  | false =>
    cases h3 : ls 3 with
    | true => exact (h.at3 h3 h4 h5 h7).blk
    | false => obtain rfl := h.at0 h3 h4 h5 h7; exact h0
theorem atJ.pure (h : atJ V0 V p s i2 f mv q nme av zs x ls a W) {i : Nat} {d : Option Tmp} (h3 : 3 ≠ i) (h4 : 4 ≠ i) (h5 : 5 ≠ i) (h7 : 7 ≠ i) (d26 : d ≠ some 26) (d27 : d ≠ some 27) (v : Value) : atJ V0 V p s i2 f mv q nme av zs x (updB ls i) (a.put d v) W := by
  unfold atJ
  rw [updB_other ls h3, updB_other ls h4, updB_other ls h5, updB_other ls h7, put_other a d v 26 d26, put_other a d v 27 d27]
  exact h
theorem atJ.to3 {W' : World} (h4 : ls 4 = false) (h5 : ls 5 = false) (h7 : ls 7 = false) (k : SB V0 W' p s i2 f mv q nme av zs) (a' : Act) : atJ V0 V p s i2 f mv q nme av zs x (updB ls 3) a' W' := by
  unfold atJ
  rw [updB_other ls (by decide : 7 ≠ 3), updB_other ls (by decide : 5 ≠ 3), updB_other ls (by decide : 4 ≠ 3), updB_at, h7, h5, h4, if_neg Bool.false_ne_true, if_neg Bool.false_ne_true, if_neg Bool.false_ne_true, if_pos rfl]
  exact k
theorem atJ.to4 {W' : World} {b : Nat} (h5 : ls 5 = false) (h7 : ls 7 = false) (hs : 26 < a.tmps.size) (hb : W'.heap[b]? = some (.cells (atC x).toArray 38 (0, 0))) (k : SB V0 W' p s i2 f mv q nme av zs) : atJ V0 V p s i2 f mv q nme av zs x (updB ls 4) (a.put (some 26) (slV b 1 1)) W' := by
  unfold atJ
  rw [updB_other ls (by decide : 7 ≠ 4), updB_other ls (by decide : 5 ≠ 4), updB_at, h7, h5, if_neg Bool.false_ne_true, if_neg Bool.false_ne_true, if_pos rfl]
  exact ⟨⟨b, put_at a 26 _ hs, hb⟩, k⟩
theorem atJ.to5 {W' : World} {Q cap : Nat} (h7 : ls 7 = false) (hs : 27 < a.tmps.size) (k1 : Rd W' p s i2 f mv) (k2 : Mv p V0 W') (k3 : MkB W' q nme av false) (k4 : AR W' (q + 1) (slV Q (zs.length + 1) cap) (zs ++ [x])) : atJ V0 V p s i2 f mv q nme av zs x (updB ls 5) (a.put (some 27) (slV Q (zs.length + 1) cap)) W' := by
  unfold atJ
  rw [updB_other ls (by decide : 7 ≠ 5), updB_at, h7, if_neg Bool.false_ne_true, if_pos rfl]
  exact ⟨Q, cap, put_at a 27 _ hs, k1, k2, k3, k4⟩
theorem atJ.to7 {W' : World} {Q cap : Nat} (k : SB V0 W' p s i2 f mv q nme (slV Q (zs.length + 1) cap) (zs ++ [x])) (a' : Act) : atJ V0 V p s i2 f mv q nme av zs x (updB ls 7) a' W' := by
  unfold atJ
  rw [updB_at, if_pos rfl]
  exact ⟨Q, cap, k⟩
theorem SB.alloc (h : SB V0 W p s i2 f mv q nme av zs) (o : Obj) : SB V0 (W.alloc o) p s i2 f mv q nme av zs := by
  have hb : Below W.heap.size W (W.alloc o) := (Below.refl _ _).alloc (Nat.le_refl _) _
  refine ⟨h.rd.below hb h.rd.lt, h.mv.below hb h.mv.size, ?_, h.row.keep fun b cur _ hx => hb.block b (heap_lt hx)⟩
  have := h.blk
  have hl := heap_lt this
  unfold MkB at this ⊢
  rw [hb.block q hl]
  exact this
theorem one_atC (x : At3) : ∀ u ∈ atC x, u.oneCell' = true := by
  intro u hu
  simp only [atC, List.mem_cons, List.not_mem_nil, or_false] at hu
  rcases hu with rfl | rfl | rfl <;> rfl
theorem mk_ne_at {q : Nat} {h : MkB W q nme av false} {b : Nat} {cur : Array Value} (hb : W.heap[b]? = some (.cells cur 38 (0, 0))) : q ≠ b := by
  rintro rfl
  unfold MkB at h
  rw [h] at hb
  simp at hb
/-- the attribute is put behind the others -/
theorem SB.append (h : SB V0 W p s i2 f mv q nme av zs) {b : Nat} (hb : W.heap[b]? = some (.cells (atC x).toArray 38 (0, 0))) (hn : zs.length ≤ 65536) (hq : V0.heap.size ≤ q + 1) :
    ∃ Q cap W2, (∀ ty, (Builtin.append_ #[34, 34] ty #[av, slV b 1 1]).run Tryz.prog W = .ok (slV Q (zs.length + 1) cap) W2) ∧ Rd W2 p s i2 f mv ∧ Mv p V0 W2 ∧ MkB W2 q nme av false ∧ AR W2 (q + 1) (slV Q (zs.length + 1) cap) (zs ++ [x]) := by
  obtain ⟨i0, hi0, hz0, hz1, hz2⟩ := info_parts Tryz.infoAt
  obtain ⟨Q, cap, W7, hr, hown7, hgrow, hor, _⟩ := run_append_lies (P := Tryz.prog) W 34 0 (q + 1) 38 i0 _ 3 40 Tryz.underlying34 hi0 hz0 hz1 hz2 rfl (by decide) av zs.length (atCells zs) h.row
    ⟨b, 0, none⟩ 1 1 (atC x) rfl (World.news_of_block (cs := (atC x).toArray) (t := 38) (fr := (0, 0)) hb) (one_atC x) (by omega) (by unfold maxLen; omega) (by omega) (by have := heap_lt h.blk; omega) _ rfl
  have hpne : av.ownBlock ≠ some p := by
    intro e
    obtain ⟨cur, h1, _⟩ := own_at h.row e
    exact h.rd.tag h1 (by decide) rfl
  have hqne : av.ownBlock ≠ some q := by
    intro e
    obtain ⟨cur, _, h2⟩ := own_at h.row e
    omega
  refine ⟨Q, cap, W7, fun ty => hr, ?_, ?_, ?_, ?_⟩
  · have := h.rd
    unfold Rd at this ⊢
    rw [hgrow.block p h.rd.lt (fun e => hpne e.symm)]; exact this
  · exact Chg.grown h.mv hgrow (fun c hc => .inr (by have := (h.row.lt c hc).1; omega))
  · have := h.blk
    have hl := heap_lt this
    unfold MkB at this ⊢
    rw [hgrow.block q hl (fun e => hqne e.symm)]; exact this
  · unfold AR
    rw [atCells_snoc, List.length_append]
    exact hown7
end
end Go.Proofs.YtbokcihlbpeagaaGreatDoor
