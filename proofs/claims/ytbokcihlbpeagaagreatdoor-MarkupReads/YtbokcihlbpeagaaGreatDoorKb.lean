/-
  What is proved: the document's SameAttrs answers true of two rows of the same attributes. Conditions: those in each statement.
-/
import Derived.Test.YtbokcihlbpeagaaGreatDoorRm
import Derived.Test.YtbokcihlbpeagaaGreatDoorSsc
import Derived.Test.YtbokcihlbpeagaaGreatDoorSsd
namespace Go.Proofs.YtbokcihlbpeagaaGreatDoor
open Go.RowKit

theorem flat3_at (l : List At3) : ∀ (j i : Nat) (hj : j < l.length), i < 3 → (atCells l)[j * 3 + i]? = (atC l[j])[i]? := by
  induction l with
  | nil => intro j i hj; simp at hj
  | cons x l ih =>
    intro j i hj hi
    have e : atCells (x :: l) = atC x ++ atCells l := rfl
    have hx : (atC x).length = 3 := rfl
    rw [e]
    cases j with
    | zero => rw [List.getElem?_append_left (by omega)]; simp
    | succ j =>
      rw [List.getElem?_append_right (by omega), hx, show (j + 1) * 3 + i - 3 = j * 3 + i by omega, ih j i (by simpa using hj) hi]
      rfl
theorem AR.elem {w : World} {B : Nat} {v : Value} {l : List At3} (h : AR w B v l) {j : Nat} (hj : j < l.length) : ∃ g c, v = .slice (some ⟨g, 0, none⟩) l.length c ∧ g < w.heap.size ∧
    w.cell? ⟨g, j * 3, none⟩ = some (.string ⟨l[j].name.toArray⟩) ∧ w.cell? ⟨g, j * 3 + 1, none⟩ = some (.string ⟨l[j].value.toArray⟩) ∧ w.cell? ⟨g, j * 3 + 2, none⟩ = some (.int .i64 (l[j].at_ : Int)) := by
  unfold AR at h
  obtain ⟨g, c, rfl, _, hg⟩ := h.form (by omega)
  refine ⟨g, c, rfl, hg, ?_, ?_, ?_⟩
  · have := h.cells (g := g) rfl (j * 3) _ (flat3_at l j 0 hj (by decide))
    rwa [show (⟨g, 0, none⟩ : Addr).add (j * 3) = ⟨g, j * 3, none⟩ by unfold Addr.add; split <;> simp_all] at this
  · have := h.cells (g := g) rfl (j * 3 + 1) _ (flat3_at l j 1 hj (by decide))
    simpa [Addr.add] using this
  · have := h.cells (g := g) rfl (j * 3 + 2) _ (flat3_at l j 2 hj (by decide))
    simpa [Addr.add] using this
def saV (b1 b2 n c d j : Nat) (xk xv : ByteArray) (xa : Int) : Nat → Value
  | 0 => .slice (some ⟨b1, 0, none⟩) n c
  | 1 => .int .i64 (j : Int)
  | 2 => .pointer (some ⟨b1, j * 3, none⟩)
  | 3 => .agg #[.string xk, .string xv, .int .i64 xa]
  | 4 => .slice (some ⟨b2, 0, none⟩) n d
  | 5 => .int .i64 (j : Int)
  | 6 => .pointer (some ⟨b2, j * 3, none⟩)
  | 7 => .agg #[.string xk, .string xv, .int .i64 xa]
  | 8 => .bool false
  | _ => undef
set_option maxRecDepth 100000 in
set_option maxHeartbeats 2000000 in
theorem SameAttrs_any (w : World) (B C : Nat) (va vb : Value) (l : List At3) (ha : AR w B va l) (hb : AR w C vb l) (hn : l.length ≤ 9223372036854775807) :
    Calls Tryz.prog 30 #[va, vb] w fun e w' => e = .returned (.bool true) ∧ Below w.heap.size w w' := by
  obtain ⟨A1, c, rfl⟩ := own_slice ha
  obtain ⟨A2, d, rfl⟩ := own_slice hb
  have HA := Lib.hid ha
  have HB := Lib.hid hb
  clear ha hb
  obtain ⟨n, hln⟩ : ∃ n, n = l.length := ⟨_, rfl⟩
  rw [← hln] at hn
  have HN := Lib.hid hln
  rw [← hln]
  clear hln
  go_enter Tryz.func30, Tryz.ntmps30
  go_wp2_with fail
  go_loopg [5] n (fun kx v5 wr => ∃ (j : Nat), v5 = .int .i64 (j : Int) ∧ j ≤ n ∧ n - j ≤ kx ∧ Aside (Below w.heap.size w wr))
  case atStart => exact ⟨0, rfl, Nat.zero_le _, Nat.le_refl _, (Below.refl _ _ : Aside _)⟩
  case round =>
    obtain ⟨j, rfl, hjn, hkx, HBW⟩ := hrel
    by_cases hlt : j < n
    · have hltz : (j : Int) < (n : Int) := by omega
      have pj : (0 : Int) ≤ (j : Int) := by omega
      have hja : j < l.length := by rw [← HN.out]; exact hlt
      obtain ⟨b1, c1, eA, hbl, e0, e1, e2⟩ := HA.out.elem hja
      obtain ⟨b2, c2, eB, hbl2, f0, f1, f2⟩ := HB.out.elem hja
      generalize l[j] = x at *
      obtain ⟨xk, xv, xa⟩ := x
      injection eA with eA1 _ eA2
      injection eB with eB1 _ eB2
      subst eA1 eA2 eB1 eB2
      simp only at e0 e1 e2 f0 f1 f2
      generalize (⟨xk.toArray⟩ : ByteArray) = yk at *
      generalize (⟨xv.toArray⟩ : ByteArray) = yv at *
      generalize (xa : Int) = ya at *
      obtain ⟨V, hV⟩ : ∃ V, V = wr.drew := ⟨_, rfl⟩
      have hbV : Below wr.heap.size wr V := by rw [hV]; exact (Below.refl _ _).drew
      have hB : Below w.heap.size w V := HBW.out.trans (hbV.mono HBW.out.size)
      have d0 := (hB.cell (p := ⟨b1, j * 3, none⟩) hbl).trans e0
      have d1 := (hB.cell (p := ⟨b1, j * 3 + 1, none⟩) hbl).trans e1
      have d2 := (hB.cell (p := ⟨b1, j * 3 + 2, none⟩) hbl).trans e2
      have g0 := (hB.cell (p := ⟨b2, j * 3, none⟩) hbl2).trans f0
      have g1 := (hB.cell (p := ⟨b2, j * 3 + 1, none⟩) hbl2).trans f1
      have g2 := (hB.cell (p := ⟨b2, j * 3 + 2, none⟩) hbl2).trans f2
      have HBV := Lib.hid hB
      have HV := Lib.hid hV
      clear e0 e1 e2 f0 f1 f2 hV hbV hB
      go_wp2_with fail
      refine wp_region_chain (saV b1 b2 n c d j yk yv ya) (fun _ => V) (by kernel_rfl) (by kernel_rfl) HV.out ?_ ?_
      · refine ⟨?_, ?_, ?_, ?_, ?_, ?_, ?_, ?_, ?_, trivial⟩
        · intro y ls hcl hi hd hoff hf
          left
          refine ⟨rfl, ?_⟩
          have e0 : y.tmps.getD 0 undef = .slice (some ⟨b1, 0, none⟩) n c := hoff.slot 0 (no_dst (by kernel_rfl))
          go_simp
          exact rfl
        · intro y ls hcl hi hd hoff hf
          left
          refine ⟨rfl, ?_⟩
          have e0 : y.tmps.getD 5 undef = .int .i64 (j : Int) := hoff.slot 5 (no_dst (by kernel_rfl))
          go_simp
          exact rfl
        · intro y ls hcl hi hd hoff hf
          left
          refine ⟨rfl, ?_⟩
          have e0 : y.tmps.getD 17 undef = .slice (some ⟨b1, 0, none⟩) n c := hf 0 _ (hd 0 rfl) rfl
          have e1 : y.tmps.getD 18 undef = .int .i64 (j : Int) := hf 1 _ (hd 1 rfl) rfl
          go_simp
          exact rfl
        · intro y ls hcl hi hd hoff hf
          left
          refine ⟨rfl, ?_⟩
          have e0 : y.tmps.getD 19 undef = .pointer (some ⟨b1, j * 3, none⟩) := hf 2 _ (hd 2 rfl) rfl
          go_simp
          exact rfl
        · intro y ls hcl hi hd hoff hf
          left
          refine ⟨rfl, ?_⟩
          have e0 : y.tmps.getD 1 undef = .slice (some ⟨b2, 0, none⟩) n d := hoff.slot 1 (no_dst (by kernel_rfl))
          go_simp
          exact rfl
        · intro y ls hcl hi hd hoff hf
          left
          refine ⟨rfl, ?_⟩
          have e0 : y.tmps.getD 5 undef = .int .i64 (j : Int) := hoff.slot 5 (no_dst (by kernel_rfl))
          go_simp
          exact rfl
        · intro y ls hcl hi hd hoff hf
          left
          refine ⟨rfl, ?_⟩
          have e0 : y.tmps.getD 21 undef = .slice (some ⟨b2, 0, none⟩) n d := hf 4 _ (hd 4 rfl) rfl
          have e1 : y.tmps.getD 22 undef = .int .i64 (j : Int) := hf 5 _ (hd 5 rfl) rfl
          go_simp
          exact rfl
        · intro y ls hcl hi hd hoff hf
          left
          refine ⟨rfl, ?_⟩
          have e0 : y.tmps.getD 23 undef = .pointer (some ⟨b2, j * 3, none⟩) := hf 6 _ (hd 6 rfl) rfl
          go_simp
          exact rfl
        · intro y ls hcl hi hd hoff hf
          left
          refine ⟨rfl, ?_⟩
          have e0 : y.tmps.getD 20 undef = .agg #[.string yk, .string yv, .int .i64 ya] := hf 3 _ (hd 3 rfl) rfl
          have e1 : y.tmps.getD 24 undef = .agg #[.string yk, .string yv, .int .i64 ya] := hf 7 _ (hd 7 rfl) rfl
          rw [Array.getD_eq_getD_getElem?] at e0 e1
          go_simp
          exact rfl
      · intro y ls hl hoff hf
        have e3 : y.tmps.getD 25 undef = .bool false := hf 8 _ rfl
        obtain ⟨ys, hys, ha⟩ := off_form hoff (mask := [false, false, false, false, false, false, false, false, false, false, false, false, false, false, false, false, false, true, true, true, true, true, true, true, true, true]) (by kernel_rfl)
        rw [hys] at e3
        subst ha
        simp only [fillFrom, Nat.zero_add, Nat.reduceAdd] at *
        rw [e3]
        clear e3 hys hoff hf hl
        rename_i hKK l1 l2
        clear l1 l2
        refine hKK _ _ ?_
        clear hKK
        go_wp2_with fail
        go_roundg (n - (j + 1))
        case measure => omega
        case rel => exact ⟨j + 1, by go_num, by omega, Nat.le_refl _, (HBV.out : Aside _)⟩
    · obtain rfl : j = n := by omega
      have hltz : ¬ (j : Int) < (j : Int) := by omega
      go_wp2_with fail
      go_ret
      exact ⟨rfl, HBW.out⟩
end Go.Proofs.YtbokcihlbpeagaaGreatDoor
