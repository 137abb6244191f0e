/-
  What is proved: contract of markup's attribute. Conditions: those in each statement.
-/
import Derived.Test.YtbokcihlbpeagaaGreatDoorRk
namespace Go.Proofs.YtbokcihlbpeagaaGreatDoor
open Go.RowKit

/-- a block of an attribute's three cells -/
def AtB (w : World) (q : Nat) (x y z : Value) : Prop := w.heap[q]? = some (.cells #[x, y, z] 38 (0, 0))
section
variable {w w' : World} {q : Nat} {x y z : Value}
theorem AtB.c0 (h : AtB w q x y z) : w.cell? ⟨q, 0, none⟩ = some x := by unfold AtB at h; simp [World.cell?, h]
theorem AtB.c1 (h : AtB w q x y z) : w.cell? ⟨q, 1, none⟩ = some y := by unfold AtB at h; simp [World.cell?, h]
theorem AtB.c2 (h : AtB w q x y z) : w.cell? ⟨q, 2, none⟩ = some z := by unfold AtB at h; simp [World.cell?, h]
theorem AtB.fz (h : AtB w q x y z) (j : Nat) : w.frozen? ⟨q, j, none⟩ = false := by unfold AtB at h; simp [World.frozen?, h]
theorem AtB.lt (h : AtB w q x y z) : q < w.heap.size := by
  rcases Nat.lt_or_ge q w.heap.size with h' | h'
  · exact h'
  · unfold AtB at h; simp [Array.getElem?_eq_none h'] at h
theorem AtB.mv {p : Nat} (h : AtB w q x y z) (hm : Mv p w w') (hp : p < q) : AtB w' q x y z := by
  have := h.lt
  unfold AtB at h ⊢; rw [hm.block q this (by omega)]; exact h
theorem AtB.set0 (h : AtB w q x y z) (v : Value) : AtB (w.setCell ⟨q, 0, none⟩ v) q v y z := heap_setCell_at h 0 v
theorem AtB.set1 (h : AtB w q x y z) (v : Value) : AtB (w.setCell ⟨q, 1, none⟩ v) q x v z := heap_setCell_at h 1 v
theorem AtB.set2 (h : AtB w q x y z) (v : Value) : AtB (w.setCell ⟨q, 2, none⟩ v) q x y v := heap_setCell_at h 2 v
theorem AtB.other (h : AtB w q x y z) {r : Nat} (hr : r ≠ q) (j : Nat) (v : Value) : AtB (w.setCell ⟨r, j, none⟩ v) q x y z := by
  unfold AtB at h ⊢; rw [Below.heap_setCell _ _ _ _ (by intro e; exact hr e.symm)]; exact h
end
theorem Mv.far {p : Nat} {a b : World} (h : Mv p a b) {q : Nat} (hq : a.heap.size ≤ q) (j : Nat) (v : Value) : Mv p a (b.setCell ⟨q, j, none⟩ v) := Chg.setCell h (.inr hq) v
theorem Rd.far {w : World} {p : Nat} {s : ByteArray} {k f : Nat} {m : Value} (h : Rd w p s k f m) {q : Nat} (hq : q ≠ p) (j : Nat) (v : Value) : Rd (w.setCell ⟨q, j, none⟩ v) p s k f m := by
  unfold Rd at h ⊢; rw [Below.heap_setCell _ _ _ _ (by intro e; exact hq e.symm)]; exact h
def attV (a : At3) : Value := .agg #[.string ⟨a.name.toArray⟩, .string ⟨a.value.toArray⟩, .int .i64 (a.at_ : Int)]
theorem wrong_some {l : List UInt8} (k f : Nat) : ∃ x y, failO k f (wrongO (α := Unit) l) = some (x, y) := by unfold wrongO; split <;> exact ⟨_, _, rfl⟩
theorem failO_fix {α : Type} {k f : Nat} {o : Out α} (h : ∀ a n, o ≠ .ok a n) : ∃ x y, failO k f o = some (x, y) := by
  cases o with
  | ok a n => exact absurd rfl (h a n)
  | bad d c => exact ⟨_, _, rfl⟩
  | un => exact ⟨_, _, rfl⟩
theorem failO_seq1 {α β : Type} {k f : Nat} {o : Out α} {l : List UInt8} {g : α → Nat → List UInt8 → Out β} {x : Nat} {y : Int} (h : failO k f o = some (x, y)) : failO k f (o.seq l g) = some (x, y) := by
  cases o with
  | ok a n => cases h
  | bad d c => exact h
  | un => exact h
theorem failO_seq2 {α β : Type} {k f : Nat} {o : Out α} {l : List UInt8} {g : α → Nat → List UInt8 → Out β} {a : α} {n : Nat} {x : Nat} {y : Int} (ho : o = .ok a n) (h : failO (k + n) f (g a n (l.drop n)) = some (x, y)) : failO k f (o.seq l g) = some (x, y) := by
  subst ho
  rw [← h, ← failO_on]
  rfl
theorem seq_is {α β : Type} {o : Out α} {l : List UInt8} {g : α → Nat → List UInt8 → Out β} {a : α} {n : Nat} (ho : o = .ok a n) : o.seq l g = (g a n (l.drop n)).on n := by subst ho; rfl
set_option maxHeartbeats 4000000 in
set_option maxRecDepth 100000 in
theorem attribute_f1 (w : World) (p : Nat) (s : ByteArray) (k f : Nat) (m : Value) (h : Rd w p s k f m) (hG : Glob w) (hp : 9 ≤ p) (hk : k ≤ s.size) (hs : s.size ≤ 65536) {x : Nat} {y : Int} (h1 : failO k f (nameO (tl s k)) = some (x, y)) : Calls Tryz.prog 77 #[.pointer (some ⟨p, 0, none⟩)] w (RdPost w p s k f m (attrO k (tl s k)) attV) := by
  have HN := Lib.hid (fun W (hW : Rd W p s k f m) => RdPost.is_fail (name_any W p s k f m hW hk hs) h1)
  have HX : Hid (failO k f (attrO k (tl s k)) = some (x, y)) := Lib.hid (failO_seq1 h1)
  have hlt := h.lt
  have c1 := h.c1
  have hsz : Hid (p < w.heap.size ∧ 9 ≤ p ∧ s.size ≤ 65536) := Lib.hid ⟨h.lt, hp, hs⟩
  have HR := Lib.hid h
  have HG := Lib.hid hG
  clear h hG hs h1
  go_enter Tryz.func77, Tryz.ntmps77
  go_wp2_with (first
    | (go_at_call 72; ((refine (HN.out _ (HR.out.below (B := w.heap.size) (((Below.refl _ _).alloc (Nat.le_refl _) _).alloc (by simp) _) hsz.out.1)).mono ?_); rintro e w1 ⟨rfl, hm⟩; have HM1 := Lib.hid (((Mv.refl p w).below (B := w.heap.size) (((Below.refl _ _).alloc (Nat.le_refl _) _).alloc (by simp) _) (Nat.le_refl _)).trans hm); clear hm)))
  exact ⟨rfl, RdPost.fail HX.out HM1.out⟩
set_option maxHeartbeats 4000000 in
set_option maxRecDepth 100000 in
theorem attribute_f2 (w : World) (p : Nat) (s : ByteArray) (k f : Nat) (m : Value) (h : Rd w p s k f m) (hG : Glob w) (hp : 9 ≤ p) (hk : k ≤ s.size) (hs : s.size ≤ 65536) {nme : List UInt8} {n : Nat} (h1 : nameO (tl s k) = .ok nme n) (h2 : hd (tl s (k + n + wh (tl s (k + n)))) ≠ 61) : Calls Tryz.prog 77 #[.pointer (some ⟨p, 0, none⟩)] w (RdPost w p s k f m (attrO k (tl s k)) attV) := by
  have hn := nameO_le h1
  rw [tl_length] at hn
  have HN := Lib.hid (fun W (hW : Rd W p s k f m) => RdPost.is_ok (name_any W p s k f m hW hk hs) h1)
  have hk1 : k + n ≤ s.size := by omega
  have HBL1 := Lib.hid (fun W (hW : Rd W p s (k + n) f m) => blanks_any W p s (k + n) f m hW hk1 hs)
  have hw1 := wh_le (tl s (k + n))
  rw [tl_length] at hw1
  have hk2 : k + n + wh (tl s (k + n)) ≤ s.size := by omega
  have e1 : attrO k (tl s k) = ((spO (tl s (k + n))).seq (tl s (k + n)) fun _ _ l2 => (mustO 61 l2).seq l2 fun _ _ l3 => (spO l3).seq l3 fun _ _ l4 => (valueO l4).map fun v => ⟨nme, v, k⟩).on n := by unfold attrO; rw [seq_is h1, tl_drop]
  have e2 : attrO k (tl s k) = (((mustO 61 (tl s (k + n + wh (tl s (k + n))))).seq (tl s (k + n + wh (tl s (k + n)))) fun _ _ l3 => (spO l3).seq l3 fun _ _ l4 => (valueO l4).map fun v => ⟨nme, v, k⟩).on (wh (tl s (k + n)))).on n := by rw [e1]; unfold spO; rw [seq_is rfl, tl_drop]
  obtain ⟨x, y, hxy⟩ := wrong_some (l := tl s (k + n + wh (tl s (k + n)))) (k + n + wh (tl s (k + n))) f
  have HMU := Lib.hid (fun W (hW : Rd W p s (k + n + wh (tl s (k + n))) f m) => must_bad W p s (k + n + wh (tl s (k + n))) f m 61 hW hk2 hs h2 (Lib.hid hxy))
  have HX : Hid (failO k f (attrO k (tl s k)) = some (x, y)) := Lib.hid (by
    rw [e2, failO_on, failO_on]
    exact failO_seq1 (by unfold mustO; rw [if_neg h2]; exact hxy))
  have hlt := h.lt
  have c1 := h.c1
  have hsz : Hid (p < w.heap.size ∧ 9 ≤ p ∧ s.size ≤ 65536) := Lib.hid ⟨h.lt, hp, hs⟩
  have HR := Lib.hid h
  have HG := Lib.hid hG
  clear h hG hs h1 hn hw1 e1 e2 h2 hxy
  go_enter Tryz.func77, Tryz.ntmps77
  go_wp2_with (first
    | (go_at_call 72; ((refine (HN.out _ (HR.out.below (B := w.heap.size) (((Below.refl _ _).alloc (Nat.le_refl _) _).alloc (by simp) _) hsz.out.1)).mono ?_); rintro e w1 ⟨rfl, hr, hm⟩; have hmA : Mv p w w1 := ((Mv.refl p w).below (B := w.heap.size) (((Below.refl _ _).alloc (Nat.le_refl _) _).alloc (by simp) _) (Nat.le_refl _)).trans hm; have ha : AtB w1 (w.heap.size + 1) (.string .empty) (.string .empty) (.int .i64 (k : Int)) := AtB.mv (heap_at _ _ _ (by simp)) hm (by have := hsz.out; omega); have hb : AtB w1 w.heap.size (.string .empty) (.string .empty) (.int .i64 0) := AtB.mv (by unfold AtB; rw [Below.heap_alloc _ _ _ (by simp)]; exact heap_at _ _ _ rfl) hm (by have := hsz.out; omega); have d0 := ha.c0; have dz := ha.fz 0; have hq : Hid (w.heap.size + 1 < w1.heap.size) := Lib.hid ha.lt; have HR1 := Lib.hid (hr.far (q := w.heap.size + 1) (by have := hsz.out; omega) 0 (strV nme)); have HM1 := Lib.hid (hmA.far (q := w.heap.size + 1) (by omega) 0 (strV nme)); have HA1 := Lib.hid (ha.set0 (strV nme)); have HB1 := Lib.hid (hb.other (r := w.heap.size + 1) (by omega) 0 (strV nme)); clear hr hm hmA ha hb))
    | (go_at_call 73; ((with_reducible refine (HBL1.out _ HR1.out).mono ?_); rintro e w2 ⟨rfl, hr, hm⟩; have HR2 := Lib.hid hr; have HM2 := Lib.hid (HM1.out.trans hm); have HA2 := Lib.hid (HA1.out.mv hm (by have := hsz.out; omega)); have HB2 := Lib.hid (HB1.out.mv hm (by have := hsz.out; omega)); clear hr hm))
    | (go_at_call 74; ((refine (HMU.out _ HR2.out).mono ?_); rintro e w3 ⟨rfl, hm⟩; have HM3 := Lib.hid (HM2.out.trans hm); clear hm)))
  exact ⟨rfl, RdPost.fail HX.out HM3.out⟩
set_option maxHeartbeats 4000000 in
set_option maxRecDepth 100000 in
theorem attribute_f3 (w : World) (p : Nat) (s : ByteArray) (k f : Nat) (m : Value) (h : Rd w p s k f m) (hG : Glob w) (hp : 9 ≤ p) (hk : k ≤ s.size) (hs : s.size ≤ 65536) {nme : List UInt8} {n : Nat} (h1 : nameO (tl s k) = .ok nme n) (h2 : hd (tl s (k + n + wh (tl s (k + n)))) = 61) {x : Nat} {y : Int} (h3 : failO (k + n + wh (tl s (k + n)) + 1 + wh (tl s (k + n + wh (tl s (k + n)) + 1))) f (valueO (tl s (k + n + wh (tl s (k + n)) + 1 + wh (tl s (k + n + wh (tl s (k + n)) + 1))))) = some (x, y)) : Calls Tryz.prog 77 #[.pointer (some ⟨p, 0, none⟩)] w (RdPost w p s k f m (attrO k (tl s k)) attV) := by
  have hn := nameO_le h1
  rw [tl_length] at hn
  have HN := Lib.hid (fun W (hW : Rd W p s k f m) => RdPost.is_ok (name_any W p s k f m hW hk hs) h1)
  have hk1 : k + n ≤ s.size := by omega
  have HBL1 := Lib.hid (fun W (hW : Rd W p s (k + n) f m) => blanks_any W p s (k + n) f m hW hk1 hs)
  have hw1 := wh_le (tl s (k + n))
  rw [tl_length] at hw1
  have hk2 : k + n + wh (tl s (k + n)) ≤ s.size := by omega
  have e1 : attrO k (tl s k) = ((spO (tl s (k + n))).seq (tl s (k + n)) fun _ _ l2 => (mustO 61 l2).seq l2 fun _ _ l3 => (spO l3).seq l3 fun _ _ l4 => (valueO l4).map fun v => ⟨nme, v, k⟩).on n := by unfold attrO; rw [seq_is h1, tl_drop]
  have e2 : attrO k (tl s k) = (((mustO 61 (tl s (k + n + wh (tl s (k + n))))).seq (tl s (k + n + wh (tl s (k + n)))) fun _ _ l3 => (spO l3).seq l3 fun _ _ l4 => (valueO l4).map fun v => ⟨nme, v, k⟩).on (wh (tl s (k + n)))).on n := by rw [e1]; unfold spO; rw [seq_is rfl, tl_drop]
  have hm61 : mustO 61 (tl s (k + n + wh (tl s (k + n)))) = .ok () 1 := by unfold mustO; rw [if_pos h2]
  have hml := mustO_le (by decide) hm61
  rw [tl_length] at hml
  have hk3 : k + n + wh (tl s (k + n)) + 1 ≤ s.size := by omega
  have HMU := Lib.hid (fun W (hW : Rd W p s (k + n + wh (tl s (k + n))) f m) => must_ok W p s (k + n + wh (tl s (k + n))) f m 61 hW hk2 hs h2 (by decide))
  have HBL2 := Lib.hid (fun W (hW : Rd W p s (k + n + wh (tl s (k + n)) + 1) f m) => blanks_any W p s (k + n + wh (tl s (k + n)) + 1) f m hW hk3 hs)
  have hw2 := wh_le (tl s (k + n + wh (tl s (k + n)) + 1))
  rw [tl_length] at hw2
  have hk4 : k + n + wh (tl s (k + n)) + 1 + wh (tl s (k + n + wh (tl s (k + n)) + 1)) ≤ s.size := by omega
  have e3 : attrO k (tl s k) = (((((valueO (tl s (k + n + wh (tl s (k + n)) + 1 + wh (tl s (k + n + wh (tl s (k + n)) + 1))))).map fun v => ⟨nme, v, k⟩).on (wh (tl s (k + n + wh (tl s (k + n)) + 1)))).on 1).on (wh (tl s (k + n)))).on n := by
    rw [e2, seq_is hm61, tl_drop]; unfold spO; rw [seq_is rfl, tl_drop]
  have HVA := Lib.hid (fun W (hW : Rd W p s (k + n + wh (tl s (k + n)) + 1 + wh (tl s (k + n + wh (tl s (k + n)) + 1))) f m) (hgW : Glob W) => RdPost.is_fail (value_any W p s _ f m hW hgW hp hk4 hs) h3)
  have HX : Hid (failO k f (attrO k (tl s k)) = some (x, y)) := Lib.hid (by
    rw [e3, failO_on, failO_on, failO_on, failO_on, failO_map]; exact h3)
  have hlt := h.lt
  have c1 := h.c1
  have hsz : Hid (p < w.heap.size ∧ 9 ≤ p ∧ s.size ≤ 65536) := Lib.hid ⟨h.lt, hp, hs⟩
  have HR := Lib.hid h
  have HG := Lib.hid hG
  clear h hG hs h1 hn hw1 e1 e2 h2 h3 e3 hw2 hml hm61
  go_enter Tryz.func77, Tryz.ntmps77
  go_wp2_with (first
    | (go_at_call 72; ((refine (HN.out _ (HR.out.below (B := w.heap.size) (((Below.refl _ _).alloc (Nat.le_refl _) _).alloc (by simp) _) hsz.out.1)).mono ?_); rintro e w1 ⟨rfl, hr, hm⟩; have hmA : Mv p w w1 := ((Mv.refl p w).below (B := w.heap.size) (((Below.refl _ _).alloc (Nat.le_refl _) _).alloc (by simp) _) (Nat.le_refl _)).trans hm; have ha : AtB w1 (w.heap.size + 1) (.string .empty) (.string .empty) (.int .i64 (k : Int)) := AtB.mv (heap_at _ _ _ (by simp)) hm (by have := hsz.out; omega); have hb : AtB w1 w.heap.size (.string .empty) (.string .empty) (.int .i64 0) := AtB.mv (by unfold AtB; rw [Below.heap_alloc _ _ _ (by simp)]; exact heap_at _ _ _ rfl) hm (by have := hsz.out; omega); have d0 := ha.c0; have dz := ha.fz 0; have hq : Hid (w.heap.size + 1 < w1.heap.size) := Lib.hid ha.lt; have HR1 := Lib.hid (hr.far (q := w.heap.size + 1) (by have := hsz.out; omega) 0 (strV nme)); have HM1 := Lib.hid (hmA.far (q := w.heap.size + 1) (by omega) 0 (strV nme)); have HA1 := Lib.hid (ha.set0 (strV nme)); have HB1 := Lib.hid (hb.other (r := w.heap.size + 1) (by omega) 0 (strV nme)); clear hr hm hmA ha hb))
    | (go_at_call 73; ((with_reducible refine (HBL1.out _ HR1.out).mono ?_); rintro e w2 ⟨rfl, hr, hm⟩; have HR2 := Lib.hid hr; have HM2 := Lib.hid (HM1.out.trans hm); have HA2 := Lib.hid (HA1.out.mv hm (by have := hsz.out; omega)); have HB2 := Lib.hid (HB1.out.mv hm (by have := hsz.out; omega)); clear hr hm))
    | (go_at_call 74; ((refine (HMU.out _ HR2.out).mono ?_); rintro e w3 ⟨rfl, hr, hm⟩; have HR3 := Lib.hid hr; have HM3 := Lib.hid (HM2.out.trans hm); have HA3 := Lib.hid (HA2.out.mv hm (by have := hsz.out; omega)); have HB3 := Lib.hid (HB2.out.mv hm (by have := hsz.out; omega)); clear hr hm))
    | (go_at_call 73; ((with_reducible refine (HBL2.out _ HR3.out).mono ?_); rintro e w4 ⟨rfl, hr, hm⟩; have HR4 := Lib.hid hr; have HM4 := Lib.hid (HM3.out.trans hm); have HA4 := Lib.hid (HA3.out.mv hm (by have := hsz.out; omega)); have HB4 := Lib.hid (HB3.out.mv hm (by have := hsz.out; omega)); clear hr hm))
    | (go_at_call 90; ((refine (HVA.out _ HR4.out (HG.out.mv HM4.out hsz.out.2.1)).mono ?_); rintro e w5 ⟨rfl, hm⟩; have HM5 := Lib.hid (HM4.out.trans hm); clear hm)))
  exact ⟨rfl, RdPost.fail HX.out HM5.out⟩
set_option maxHeartbeats 4000000 in
set_option maxRecDepth 100000 in
theorem attribute_ok (w : World) (p : Nat) (s : ByteArray) (k f : Nat) (m : Value) (h : Rd w p s k f m) (hG : Glob w) (hp : 9 ≤ p) (hk : k ≤ s.size) (hs : s.size ≤ 65536) {nme : List UInt8} {n : Nat} (h1 : nameO (tl s k) = .ok nme n) (h2 : hd (tl s (k + n + wh (tl s (k + n)))) = 61) {val : List UInt8} {j : Nat} (h3 : valueO (tl s (k + n + wh (tl s (k + n)) + 1 + wh (tl s (k + n + wh (tl s (k + n)) + 1)))) = .ok val j) : Calls Tryz.prog 77 #[.pointer (some ⟨p, 0, none⟩)] w (RdPost w p s k f m (attrO k (tl s k)) attV) := by
  have hn := nameO_le h1
  rw [tl_length] at hn
  have HN := Lib.hid (fun W (hW : Rd W p s k f m) => RdPost.is_ok (name_any W p s k f m hW hk hs) h1)
  have hk1 : k + n ≤ s.size := by omega
  have HBL1 := Lib.hid (fun W (hW : Rd W p s (k + n) f m) => blanks_any W p s (k + n) f m hW hk1 hs)
  have hw1 := wh_le (tl s (k + n))
  rw [tl_length] at hw1
  have hk2 : k + n + wh (tl s (k + n)) ≤ s.size := by omega
  have e1 : attrO k (tl s k) = ((spO (tl s (k + n))).seq (tl s (k + n)) fun _ _ l2 => (mustO 61 l2).seq l2 fun _ _ l3 => (spO l3).seq l3 fun _ _ l4 => (valueO l4).map fun v => ⟨nme, v, k⟩).on n := by unfold attrO; rw [seq_is h1, tl_drop]
  have e2 : attrO k (tl s k) = (((mustO 61 (tl s (k + n + wh (tl s (k + n))))).seq (tl s (k + n + wh (tl s (k + n)))) fun _ _ l3 => (spO l3).seq l3 fun _ _ l4 => (valueO l4).map fun v => ⟨nme, v, k⟩).on (wh (tl s (k + n)))).on n := by rw [e1]; unfold spO; rw [seq_is rfl, tl_drop]
  have hm61 : mustO 61 (tl s (k + n + wh (tl s (k + n)))) = .ok () 1 := by unfold mustO; rw [if_pos h2]
  have hml := mustO_le (by decide) hm61
  rw [tl_length] at hml
  have hk3 : k + n + wh (tl s (k + n)) + 1 ≤ s.size := by omega
  have HMU := Lib.hid (fun W (hW : Rd W p s (k + n + wh (tl s (k + n))) f m) => must_ok W p s (k + n + wh (tl s (k + n))) f m 61 hW hk2 hs h2 (by decide))
  have HBL2 := Lib.hid (fun W (hW : Rd W p s (k + n + wh (tl s (k + n)) + 1) f m) => blanks_any W p s (k + n + wh (tl s (k + n)) + 1) f m hW hk3 hs)
  have hw2 := wh_le (tl s (k + n + wh (tl s (k + n)) + 1))
  rw [tl_length] at hw2
  have hk4 : k + n + wh (tl s (k + n)) + 1 + wh (tl s (k + n + wh (tl s (k + n)) + 1)) ≤ s.size := by omega
  have e3 : attrO k (tl s k) = (((((valueO (tl s (k + n + wh (tl s (k + n)) + 1 + wh (tl s (k + n + wh (tl s (k + n)) + 1))))).map fun v => ⟨nme, v, k⟩).on (wh (tl s (k + n + wh (tl s (k + n)) + 1)))).on 1).on (wh (tl s (k + n)))).on n := by
    rw [e2, seq_is hm61, tl_drop]; unfold spO; rw [seq_is rfl, tl_drop]
  have HVA := Lib.hid (fun W (hW : Rd W p s (k + n + wh (tl s (k + n)) + 1 + wh (tl s (k + n + wh (tl s (k + n)) + 1))) f m) (hgW : Glob W) => RdPost.is_ok (value_any W p s _ f m hW hgW hp hk4 hs) h3)
  have HX : Hid (attrO k (tl s k) = .ok ⟨nme, val, k⟩ (j + wh (tl s (k + n + wh (tl s (k + n)) + 1)) + 1 + wh (tl s (k + n)) + n)) := Lib.hid (by
    rw [e3, h3]; rfl)
  have HK : Hid (k + (j + wh (tl s (k + n + wh (tl s (k + n)) + 1)) + 1 + wh (tl s (k + n)) + n) = k + n + wh (tl s (k + n)) + 1 + wh (tl s (k + n + wh (tl s (k + n)) + 1)) + j) := Lib.hid (by omega)
  have hlt := h.lt
  have c1 := h.c1
  have hsz : Hid (p < w.heap.size ∧ 9 ≤ p ∧ s.size ≤ 65536) := Lib.hid ⟨h.lt, hp, hs⟩
  have HR := Lib.hid h
  have HG := Lib.hid hG
  clear h hG hs h1 hn hw1 e1 e2 h2 h3 e3 hw2 hml hm61
  go_enter Tryz.func77, Tryz.ntmps77
  go_wp2_with (first
    | (go_at_call 72; ((refine (HN.out _ (HR.out.below (B := w.heap.size) (((Below.refl _ _).alloc (Nat.le_refl _) _).alloc (by simp) _) hsz.out.1)).mono ?_); rintro e w1 ⟨rfl, hr, hm⟩; have hmA : Mv p w w1 := ((Mv.refl p w).below (B := w.heap.size) (((Below.refl _ _).alloc (Nat.le_refl _) _).alloc (by simp) _) (Nat.le_refl _)).trans hm; have ha : AtB w1 (w.heap.size + 1) (.string .empty) (.string .empty) (.int .i64 (k : Int)) := AtB.mv (heap_at _ _ _ (by simp)) hm (by have := hsz.out; omega); have hb : AtB w1 w.heap.size (.string .empty) (.string .empty) (.int .i64 0) := AtB.mv (by unfold AtB; rw [Below.heap_alloc _ _ _ (by simp)]; exact heap_at _ _ _ rfl) hm (by have := hsz.out; omega); have d0 := ha.c0; have dz := ha.fz 0; have hq : Hid (w.heap.size + 1 < w1.heap.size) := Lib.hid ha.lt; have HR1 := Lib.hid (hr.far (q := w.heap.size + 1) (by have := hsz.out; omega) 0 (strV nme)); have HM1 := Lib.hid (hmA.far (q := w.heap.size + 1) (by omega) 0 (strV nme)); have HA1 := Lib.hid (ha.set0 (strV nme)); have HB1 := Lib.hid (hb.other (r := w.heap.size + 1) (by omega) 0 (strV nme)); clear hr hm hmA ha hb))
    | (go_at_call 73; ((with_reducible refine (HBL1.out _ HR1.out).mono ?_); rintro e w2 ⟨rfl, hr, hm⟩; have HR2 := Lib.hid hr; have HM2 := Lib.hid (HM1.out.trans hm); have HA2 := Lib.hid (HA1.out.mv hm (by have := hsz.out; omega)); have HB2 := Lib.hid (HB1.out.mv hm (by have := hsz.out; omega)); clear hr hm))
    | (go_at_call 74; ((refine (HMU.out _ HR2.out).mono ?_); rintro e w3 ⟨rfl, hr, hm⟩; have HR3 := Lib.hid hr; have HM3 := Lib.hid (HM2.out.trans hm); have HA3 := Lib.hid (HA2.out.mv hm (by have := hsz.out; omega)); have HB3 := Lib.hid (HB2.out.mv hm (by have := hsz.out; omega)); clear hr hm))
    | (go_at_call 73; ((with_reducible refine (HBL2.out _ HR3.out).mono ?_); rintro e w4 ⟨rfl, hr, hm⟩; have HR4 := Lib.hid hr; have HM4 := Lib.hid (HM3.out.trans hm); have HA4 := Lib.hid (HA3.out.mv hm (by have := hsz.out; omega)); have HB4 := Lib.hid (HB3.out.mv hm (by have := hsz.out; omega)); clear hr hm))
    | (go_at_call 90; ((refine (HVA.out _ HR4.out (HG.out.mv HM4.out hsz.out.2.1)).mono ?_); rintro e w5 ⟨rfl, hr, hm⟩; have ha := HA4.out.mv hm (by have := hsz.out; omega); have hb := HB4.out.mv hm (by have := hsz.out; omega); have e0 := ha.c0; have e1 := ha.c1; have e2 := ha.c2; have ez := ha.fz 1; have f0 := hb.c0; have f1 := hb.c1; have f2 := hb.c2; have g0 := hb.fz 0; have g1 := hb.fz 1; have g2 := hb.fz 2; have HR5 := Lib.hid hr; have HM5 := Lib.hid (HM4.out.trans hm); have HA5 := Lib.hid (HA4.out.mv hm (by have := hsz.out; omega)); have HB5 := Lib.hid (HB4.out.mv hm (by have := hsz.out; omega)); clear hr hm)))
  have hf := (((HB5.out.other (r := w.heap.size + 1) (by omega) 1 (.string ⟨val.toArray⟩)).set0 (.string ⟨nme.toArray⟩)).set1 (.string ⟨val.toArray⟩)).set2 (.int .i64 (k : Int))
  have y0 := hf.c0
  have y1 := hf.c1
  have y2 := hf.c2
  clear hf
  refine bodyPost_ret (v := attV ⟨nme, val, k⟩) (by simp only [results, Tryz.results77]; simp [results, go_sem, attV, y0, y1, y2]) rfl ?_
  rw [HX.out]
  have hq := hsz.out
  refine ⟨rfl, ?_, ?_⟩
  · rw [HK.out]
    exact (((HR5.out.far (by omega) _ _).far (by omega) _ _).far (by omega) _ _).far (by omega) _ _
  · exact (((HM5.out.far (by omega) _ _).far (by omega) _ _).far (by omega) _ _).far (by omega) _ _

theorem attribute_any (w : World) (p : Nat) (s : ByteArray) (k f : Nat) (m : Value) (h : Rd w p s k f m) (hG : Glob w) (hp : 9 ≤ p) (hk : k ≤ s.size) (hs : s.size ≤ 65536) : Calls Tryz.prog 77 #[.pointer (some ⟨p, 0, none⟩)] w (RdPost w p s k f m (attrO k (tl s k)) attV) := by
  cases h1 : nameO (tl s k) with
  | ok nme n =>
    by_cases h2 : hd (tl s (k + n + wh (tl s (k + n)))) = 61
    · cases h3 : valueO (tl s (k + n + wh (tl s (k + n)) + 1 + wh (tl s (k + n + wh (tl s (k + n)) + 1)))) with
      | ok val j => exact attribute_ok w p s k f m h hG hp hk hs h1 h2 h3
      | bad d y => exact attribute_f3 w p s k f m h hG hp hk hs h1 h2 (by rw [h3]; rfl)
      | un => exact attribute_f3 w p s k f m h hG hp hk hs h1 h2 (by rw [h3]; rfl)
    · exact attribute_f2 w p s k f m h hG hp hk hs h1 h2
  | bad d y => exact attribute_f1 w p s k f m h hG hp hk hs (by rw [h1]; rfl)
  | un => exact attribute_f1 w p s k f m h hG hp hk hs (by rw [h1]; rfl)
end Go.Proofs.YtbokcihlbpeagaaGreatDoor
