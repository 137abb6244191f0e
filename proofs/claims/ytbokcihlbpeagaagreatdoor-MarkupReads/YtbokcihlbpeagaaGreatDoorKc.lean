/-
  What is proved: the document's Same answers true of two rows of the same marks. Conditions: those in each statement.
-/
import Derived.Test.YtbokcihlbpeagaaGreatDoorKb
namespace Go.Proofs.YtbokcihlbpeagaaGreatDoor
open Go.RowKit

theorem flat6_at (l : List (Mk × Value)) : ∀ (j i : Nat) (hj : j < l.length), i < 6 → (mkCells l)[j * 6 + i]? = (mkC l[j])[i]? := by
  induction l with
  | nil => intro j i hj; simp at hj
  | cons x l ih =>
    intro j i hj hi
    have e : mkCells (x :: l) = mkC x ++ mkCells l := rfl
    have hx : (mkC x).length = 6 := rfl
    rw [e]
    cases j with
    | zero => rw [List.getElem?_append_left (by omega)]; simp
    | succ j =>
      rw [List.getElem?_append_right (by omega), hx, show (j + 1) * 6 + i - 6 = j * 6 + i by omega, ih j i (by simpa using hj) hi]
      rfl
theorem addr_add (g o : Nat) : (⟨g, 0, none⟩ : Addr).add o = ⟨g, o, none⟩ := by unfold Addr.add; split <;> simp_all
structure Elem6 (w : World) (g j : Nat) (m : Mk) (v : Value) : Prop where
  c0 : w.cell? ⟨g, j * 6, none⟩ = some (.int .i64 (m.kind : Int))
  c1 : w.cell? ⟨g, j * 6 + 1, none⟩ = some (.string ⟨m.name.toArray⟩)
  c2 : w.cell? ⟨g, j * 6 + 2, none⟩ = some v
  c3 : w.cell? ⟨g, j * 6 + 3, none⟩ = some (.bool m.empty)
  c4 : w.cell? ⟨g, j * 6 + 4, none⟩ = some (.string ⟨m.text.toArray⟩)
  c5 : w.cell? ⟨g, j * 6 + 5, none⟩ = some (.int .i64 (m.at_ : Int))
theorem MR.elem {w : World} {B : Nat} {v : Value} {l : List (Mk × Value)} (h : MR w B v l) {j : Nat} (hj : j < l.length) : ∃ g c, v = .slice (some ⟨g, 0, none⟩) l.length c ∧ g < w.heap.size ∧
    Elem6 w g j l[j].1 l[j].2 ∧ AR w B l[j].2 l[j].1.attrs := by
  have hr := h.row
  obtain ⟨g, c, rfl, _, hg⟩ := hr.form (by omega)
  refine ⟨g, c, rfl, hg, ⟨?_, ?_, ?_, ?_, ?_, ?_⟩, h.att _ (List.getElem_mem hj)⟩
  · have := hr.cells (g := g) rfl (j * 6) _ (flat6_at l j 0 hj (by decide)); rwa [addr_add] at this
  · have := hr.cells (g := g) rfl (j * 6 + 1) _ (flat6_at l j 1 hj (by decide)); rwa [addr_add] at this
  · have := hr.cells (g := g) rfl (j * 6 + 2) _ (flat6_at l j 2 hj (by decide)); rwa [addr_add] at this
  · have := hr.cells (g := g) rfl (j * 6 + 3) _ (flat6_at l j 3 hj (by decide)); rwa [addr_add] at this
  · have := hr.cells (g := g) rfl (j * 6 + 4) _ (flat6_at l j 4 hj (by decide)); rwa [addr_add] at this
  · have := hr.cells (g := g) rfl (j * 6 + 5) _ (flat6_at l j 5 hj (by decide)); rwa [addr_add] at this
theorem Elem6.below {w w' : World} {g j : Nat} {m : Mk} {v : Value} (h : Elem6 w g j m v) (hg : g < w.heap.size) (hb : Below w.heap.size w w') : Elem6 w' g j m v :=
  ⟨(hb.cell (p := ⟨g, _, none⟩) hg).trans h.c0, (hb.cell (p := ⟨g, _, none⟩) hg).trans h.c1, (hb.cell (p := ⟨g, _, none⟩) hg).trans h.c2,
   (hb.cell (p := ⟨g, _, none⟩) hg).trans h.c3, (hb.cell (p := ⟨g, _, none⟩) hg).trans h.c4, (hb.cell (p := ⟨g, _, none⟩) hg).trans h.c5⟩
theorem AR.len {w : World} {B : Nat} {v : Value} {l : List At3} (h : AR w B v l) : l.length ≤ 9223372036854775807 := by
  rcases h.2 with ⟨_, h1⟩ | ⟨_, cap, _, _, _, _, h1, h2, _⟩
  · omega
  · exact Nat.le_trans h1 (Nat.le_trans h2 (by unfold maxLen; decide))
theorem AR.below {w w' : World} {B : Nat} {v : Value} {l : List At3} (h : AR w B v l) (hb : Below w.heap.size w w') : AR w' B v l :=
  AR.keep h fun b _ _ he => hb.block b (heap_lt he)
set_option maxRecDepth 100000 in
set_option maxHeartbeats 4000000 in
theorem Same_any (w : World) (B C : Nat) (va vb : Value) (zs ys : List (Mk × Value)) (ha : MR w B va zs) (hb : MR w C vb ys) (he : zs.map Prod.fst = ys.map Prod.fst) (hn : zs.length ≤ 9223372036854775807) :
    Calls Tryz.prog 9 #[va, vb] w fun e w' => e = .returned (.bool true) ∧ Below w.heap.size w w' := by
  obtain ⟨A1, c, rfl⟩ := own_slice ha.row
  obtain ⟨A2, d, rfl⟩ := own_slice hb.row
  have hlen : ys.length = zs.length := by have := congrArg List.length he; simpa using this.symm
  have HE := Lib.hid he
  have HA := Lib.hid ha
  have HB := Lib.hid hb
  rw [hlen]
  obtain ⟨n, hln⟩ : ∃ n, n = zs.length := ⟨_, rfl⟩
  rw [← hln] at hn hlen
  have HN := Lib.hid hln
  have HM := Lib.hid hlen
  rw [← hln]
  clear hln hlen ha hb he
  go_enter Tryz.func9, Tryz.ntmps9
  go_wp2_with fail
  go_loopg [5] n (fun kx v5 wr => ∃ (j : Nat), v5 = .int .i64 (j : Int) ∧ j ≤ n ∧ n - j ≤ kx ∧ Aside (Below w.heap.size w wr))
  case atStart => exact ⟨0, rfl, Nat.zero_le _, Nat.le_refl _, (Below.refl _ _ : Aside _)⟩
  case round =>
    obtain ⟨j, rfl, hjn, hkx, HBW⟩ := hrel
    by_cases hlt : j < n
    · have hltz : (j : Int) < (n : Int) := by omega
      have pj : (0 : Int) ≤ (j : Int) := by omega
      have hja : j < zs.length := by rw [← HN.out]; exact hlt
      have hjb : j < ys.length := by rw [HM.out]; exact hlt
      obtain ⟨b1, c1, eA, hbl, e1, r1⟩ := HA.out.elem hja
      obtain ⟨b2, c2, eB, hbl2, e2, r2⟩ := HB.out.elem hjb
      have hm : ys[j].1 = zs[j].1 := by
        have := congrArg (fun l => l[j]?) HE.out
        simp [hja, hjb] at this
        exact this.symm
      rw [hm] at e2 r2
      clear hm
      generalize zs[j] = z at *
      generalize ys[j] = y at *
      obtain ⟨m, u⟩ := z
      obtain ⟨m', u'⟩ := y
      simp only at e1 e2 r1 r2
      injection eA with eA1 _ eA2
      injection eB with eB1 _ eB2
      subst eA1 eA2 eB1 eB2
      obtain ⟨A3, c3, rfl⟩ := own_slice r1
      obtain ⟨A4, c4, rfl⟩ := own_slice r2
      have f1 := e1.below hbl HBW.out
      have f2 := e2.below hbl2 HBW.out
      have hb1 : b1 < wr.heap.size := Nat.lt_of_lt_of_le hbl HBW.out.size
      have hb2 : b2 < wr.heap.size := Nat.lt_of_lt_of_le hbl2 HBW.out.size
      obtain ⟨k0, k1, k2, k3, k4, k5⟩ := f1
      obtain ⟨q0, q1, q2, q3, q4, q5⟩ := f2
      have R1 := Lib.hid (r1.below HBW.out)
      have R2 := Lib.hid (r2.below HBW.out)
      have L1 := Lib.hid r1.len
      clear e1 e2 r1 r2 hbl hbl2
      generalize (⟨m.name.toArray⟩ : ByteArray) = mn at *
      generalize (⟨m.text.toArray⟩ : ByteArray) = mt at *
      generalize (m.kind : Int) = mk at *
      generalize (m.at_ : Int) = ma at *
      generalize m.empty = me at *
      have HALL := Lib.hid (fun (o o' : Obj) => (((Below.refl wr.heap.size wr).alloc (Nat.le_refl _) o).alloc (by simp) o' : Below wr.heap.size wr ((wr.alloc o).alloc o')))
      go_wp2_with fail
      refine (SameAttrs_any _ B C _ _ m.attrs (AR.below R1.out (HALL.out _ _)) (AR.below R2.out (HALL.out _ _)) L1.out).mono ?_
      rintro e w2 ⟨rfl, hb2⟩
      have HB2 := Lib.hid (HBW.out.trans (((HALL.out _ _).trans (hb2.mono (HALL.out _ _).size)).mono HBW.out.size))
      clear hb2
      go_wp2_with fail
      go_roundg (n - (j + 1))
      case measure => omega
      case rel => exact ⟨j + 1, by go_num, by omega, Nat.le_refl _, (HB2.out : Aside _)⟩
    · obtain rfl : j = n := by omega
      have hltz : ¬ (j : Int) < (j : Int) := by omega
      go_wp2_with fail
      go_ret
      exact ⟨rfl, HBW.out⟩
end Go.Proofs.YtbokcihlbpeagaaGreatDoor
