/-
  What is proved: what the document's Split answers: the frames of bytes, each in memory of its own, or that they aren't frames alone. Conditions: the bytes lie in memory as they must, and are no more than 2^40.
-/
import Derived.Test.YtkghjgpeobacjaaMx
import Derived.Test.YtkghjgpeobacjaaJp
import Derived.Test.YtkghjgpeobacjaaSsd
namespace Go.Proofs.Ytkghjgpeobacjaa
open Go.RowKit

theorem Frames.nil_ (base : Nat) (w : World) : Frames base w [] (.slice none 0 0) := ⟨[], ⟨rfl, by simp⟩, World.ownsRow_nil _ _ _ _⟩
def RSPost (w : World) (o : Option (List (List UInt8))) (e : Ending) (w' : World) : Prop := ∃ B C, e = .returned (.tuple #[.slice B (o.getD []).length C, .bool o.isSome]) ∧ Frames w.heap.size w' (o.getD []) (.slice B (o.getD []).length C) ∧ Below w.heap.size w w'
theorem RSPost.no {w w' : World} (hb : Below w.heap.size w w') : RSPost w none (.returned (.tuple #[.slice none 0 0, .bool false])) w' := ⟨none, 0, rfl, Frames.nil_ _ _, hb⟩
theorem rsplit_step {w wr w4 w5 : World} {ps : List Part} {fs : List (List UInt8)} {f : List UInt8} {A2 : Option Addr} {n2 c2 : Nat} {v v5 : Value} (hp : PartsOwn w.heap.size wr ps fs) (hb : Below w.heap.size w wr) (hbw : Below wr.heap.size wr w4) (hox : w4.ownsRow w.heap.size 5 1 (.slice A2 n2 c2) n2 (bv f))
    (ha : (w4.alloc (.cells #[.slice A2 n2 c2] 37)).ownsRow w.heap.size 37 1 v ps.length (ps.map Part.val)) (h3 : w5.ownsRow w.heap.size 37 1 v5 (ps.length + 1) (ps.map Part.val ++ [.slice A2 n2 c2])) (hg : (w4.alloc (.cells #[.slice A2 n2 c2] 37)).grownBy w5 v.ownBlock) :
    w5.ownsRow w.heap.size 37 1 v5 (ps ++ [(A2, n2, c2, f)]).length ((ps ++ [(A2, n2, c2, f)]).map Part.val) ∧ PartsOwn w.heap.size w5 (ps ++ [(A2, n2, c2, f)]) (fs ++ [f]) ∧ Below w.heap.size w w5 := by
  have hbal : Below w4.heap.size w4 (w4.alloc (.cells #[.slice A2 n2 c2] 37)) := (Below.refl _ _).alloc (Nat.le_refl _) _
  have hsz : w.heap.size ≤ w4.heap.size := Nat.le_trans hb.size hbw.size
  have hb2 : Below w.heap.size w (w4.alloc (.cells #[.slice A2 n2 c2] 37)) := (hb.trans (hbw.mono hb.size)).alloc hsz _
  have hb3 : Below w.heap.size w w5 := hb2.grown hg (by simp; omega) (fun k h => (ha.lt k h).1)
  have hp2 := ((hp.below hbw).below hbal).grown ha hg
  have hone : PartsOwn w.heap.size (w4.alloc (.cells #[.slice A2 n2 c2] 37)) [(A2, n2, c2, f)] [f] := ⟨rfl, by
    intro p hp
    simp at hp
    subst hp
    exact hox.alloc _⟩
  have hone3 := hone.grown ha hg
  refine ⟨by simpa [Part.val] using h3, ⟨by simp [hp2.1], ?_⟩, hb3⟩
  intro p hpm
  rcases List.mem_append.1 hpm with hpm | hpm
  · exact hp2.2 p hpm
  · exact hone3.2 p hpm
theorem firstOf_short {r : List UInt8} (h : badLen r) : firstOf r = none := by unfold firstOf; rw [if_pos h]
theorem firstOf_sum {r : List UInt8} (h : ¬ badLen r) (hs : ¬ sumOf r = ((crc (bodyOf r) : Nat) : Int)) : firstOf r = none := by unfold firstOf; rw [if_neg h, if_neg hs]
theorem firstOf_ok {r : List UInt8} (h : ¬ badLen r) (hs : sumOf r = ((crc (bodyOf r) : Nat) : Int)) : firstOf r = some (bodyOf r) := by unfold firstOf; rw [if_neg h, if_pos hs]
theorem bad_cases {r : List UInt8} {n k : Nat} {ln : Int} (h : badLen r) (hln : ln = lenOf r) (hrl : r.length = n - k) (h16 : k + 16 ≤ n) : ln < 0 ∨ (0 ≤ ln ∧ (n : Int) - ((k : Int) + 16) < ln) := by
  unfold badLen at h
  rw [← hln] at h
  omega
theorem good_cases {r : List UInt8} {n k : Nat} {ln : Int} (h : ¬ badLen r) (hln : ln = lenOf r) (hrl : r.length = n - k) (h16 : k + 16 ≤ n) : ln = ((bodyOf r).length : Int) ∧ k + 16 + (bodyOf r).length ≤ n := by
  have := bodyOf_length h
  rw [← hln] at this
  omega
theorem body_at {l r : List UInt8} {k m : Nat} (hr : r = l.drop k) (hl : lenOf r = (m : Int)) : (l.drop (k + 16)).take m = bodyOf r := by
  unfold bodyOf
  rw [hl, hr, List.drop_drop, Int.toNat_natCast]
/-- a reader at a new block -/
theorem mx_new (w : World) (A : Option Addr) (n c k : Nat) : MX (w.alloc (.cells #[.slice A n c, .int .i64 ((k : Nat) : Int), .bool false] 99)) w.heap.size A n c k false := heap_alloc_new _ _
theorem below_new {w W w' : World} {o : Obj} (hW : W = w.alloc o) (hg : W.grownBy w' (some w.heap.size)) : Below w.heap.size w w' := by
  subst hW
  exact ((Below.refl _ _).alloc (Nat.le_refl _) o).grown hg (by simp) (fun k h => by injection h with h; omega)
def SpF (m0 b off n c k m : Nat) (ad : Addr) : Nat → Value → Prop
  | 0, v => v = .slice none 0 0
  | 1, v => v = .slice (some ⟨b, off, none⟩) n c
  | 2, v | 3, v | 6, v | 7, v => v = .pointer (some ⟨m0, 0, none⟩)
  | 4, v | 8, v => v = .pointer (some ⟨m0, 1, none⟩)
  | 5, v | 9, v => v = .int .i64 ((k : Int) + 16)
  | 10, v => v = .int .i64 (m : Int)
  | 11, v => v = .int .i64 ((k : Int) + 16 + (m : Int))
  | 12, v => v = .slice (some ad) m (c - (k + 16))
  | _, _ => True
/-- 'append(nil, xs...)' of bytes, at a step -/
theorem wp_copy_new {o : Oper} {a : Act} {K : Act → World → Prop} {Q : Exit → Act → World → Prop} (s x : Operand) (ho : o.op = .call { callee := .builtin .append, args := #[s, x], argTypes := #[37, 37] }) (base : Nat) (W : World) (hs : a.eval s = .slice none 0 0) (ad : Addr) (m cc : Nat) (l : List UInt8)
    (hx : a.eval x = .slice (some ad) m cc) (hh : Hold W (some ad) m cc l) (hm : m ≤ 140737488355328) (hbase : base ≤ W.heap.size) (h : ∀ A2 c2 w', w'.ownsRow base 5 1 (.slice A2 m c2) m (bv l) → Below W.heap.size W w' → K (a.put o.dst (.slice A2 m c2)) w') : o.wp Try.prog a W K Q := by
  obtain ⟨i5, hi5, hy0, hy1, hy2⟩ := info_parts Try.info5
  refine wp_append_own W s x 37 ho base 5 i5 (.int .u8 0) 1 1 Try.underlying37 hi5 hy0 hy1 hy2 rfl (by decide) (.slice none 0 0) 0 [] hs (World.ownsRow_nil _ _ _ _) ad m cc (bv l) hx (by rw [bv_length, Nat.mul_one]; exact hh.1) (hh.cells ad rfl) (bv_one _) (by unfold maxLen; omega) (by omega) hbase ?_
  intro v' w' hown hgrow _
  obtain ⟨A2, c2, rfl⟩ := own_form37 hown
  simp only [Nat.zero_add, List.nil_append] at hown ⊢
  exact h A2 c2 w' hown ((Below.refl _ _).grown hgrow (Nat.le_refl _) (by simp [Value.ownBlock]))
theorem drew_size (w : World) : w.drew.heap.size = w.heap.size := rfl
/-- the line that copies a frame's bytes: what holds, by what has come up -/
def spJ (V : World) (base m : Nat) (body : List UInt8) (ls : Nat → Bool) (a : Act) (w : World) : Prop :=
  Below V.heap.size V w ∧ (ls 14 = false → a.tmps.getD 9 undef = .slice none 0 0) ∧ (ls 13 = true → ls 14 = false → ∃ A2 c2, a.tmps.getD 54 undef = .slice A2 m c2 ∧ w.ownsRow base 5 1 (.slice A2 m c2) m (bv body)) ∧ (ls 14 = true → ∃ A2 c2, a.tmps.getD 9 undef = .slice A2 m c2 ∧ w.ownsRow base 5 1 (.slice A2 m c2) m (bv body))
section
variable {V w w' : World} {base m : Nat} {body : List UInt8} {ls : Nat → Bool} {a : Act} {i : Nat} {d : Option Tmp}
theorem spJ.pure (h : spJ V base m body ls a w) (h1 : i ≠ 13) (h2 : i ≠ 14) (hd : d ≠ some 9) (hd2 : d ≠ some 54) (v : Value) : spJ V base m body (updB ls i) (a.put d v) w := by
  unfold spJ at *
  rw [updB_other ls (Ne.symm h1), updB_other ls (Ne.symm h2), put_other a d v 9 hd, put_other a d v 54 hd2]
  exact h
theorem spJ.app (h : spJ V base m body ls a w) (h14 : ls 14 = false) {A2 : Option Addr} {c2 : Nat} (hb : Below w.heap.size w w') (ho : w'.ownsRow base 5 1 (.slice A2 m c2) m (bv body)) (hs : 54 < a.tmps.size) : spJ V base m body (updB ls 13) (a.put (some 54) (.slice A2 m c2)) w' := by
  unfold spJ at *
  rw [updB_other ls (by decide : 14 ≠ 13), updB_at, put_other a (some 54) _ 9 (by decide), h14]
  exact ⟨h.1.trans (hb.mono h.1.size), fun _ => h.2.1 h14, fun _ _ => ⟨A2, c2, put_at a 54 _ hs, ho⟩, fun h => by cases h⟩
theorem spJ.fin {A2 : Option Addr} {c2 : Nat} (h : Below V.heap.size V w) (ho : w.ownsRow base 5 1 (.slice A2 m c2) m (bv body)) (hs : 9 < a.tmps.size) : spJ V base m body (updB ls 14) (a.put (some 9) (.slice A2 m c2)) w := by
  unfold spJ
  rw [updB_at]
  exact ⟨h, (fun h => by cases h), (fun _ h => by cases h), fun _ => ⟨A2, c2, put_at a 9 _ hs, ho⟩⟩
end
def RSR (w : World) (l : List UInt8) (n : Nat) (v at_ : Value) (wr : World) : Prop :=
  ∃ k fs ps, k ≤ n ∧ at_ = .int .i64 ((k : Nat) : Int) ∧ splitOf l = (splitOf (l.drop k)).map (fs ++ ·) ∧ wr.ownsRow w.heap.size 37 1 v ps.length (ps.map Part.val) ∧ PartsOwn w.heap.size wr ps fs ∧ ps.length * 16 ≤ k ∧ Below w.heap.size w wr

set_option maxRecDepth 100000 in
set_option maxHeartbeats 800000 in
theorem rsplit_any (A : Option Addr) (n c : Nat) (l : List UInt8) (w : World) (h : Hold w A n c l) (hn : n ≤ 1099511627776) : Calls Try.prog 34 #[.slice A n c] w (RSPost w (splitOf l)) := by
  have hl := h.1
  have hc := h.2.1
  have H := Lib.hid h
  have h0 : RSR w l n (.slice none 0 0) (.int .i64 0) w := ⟨0, [], [], by omega, rfl, by rw [List.drop_zero]; cases splitOf l <;> rfl, World.ownsRow_nil _ _ _ _, ⟨rfl, by simp⟩, by simp, Below.refl _ _⟩
  have H0 := Lib.hid h0
  clear h h0
  obtain ⟨i0, hi, hz0, hz1, hz2⟩ := info_parts Try.info37
  go_enter Try.func34, Try.ntmps34
  go_wp2
  go_loopw [4, 5] (fun v a wr => RSR w l n v a wr) (fun _ a _ => n - (intOf a).toNat)
  case atStart => exact H0.out
  case round =>
    clear H0
    obtain ⟨k, fs, ps, hkn, rfl, hsp, hown, hpo, hlen, hb⟩ := hrel
    have HO := Lib.hid hown
    have HP := Lib.hid hpo
    have HB := Lib.hid hb
    have HSP := Lib.hid hsp
    obtain ⟨B, C, rfl⟩ := own_form37 hown
    clear hown hpo hb hsp
    by_cases hk : k = n
    · subst hk
      have e' : splitOf l = some fs := by
        rw [HSP.out, List.drop_of_length_le (by omega), splitOf_nil]
        simp
      have hlf : fs.length = ps.length := by rw [← HP.out.1]; simp
      have fin : RSPost w (splitOf l) (.returned (.tuple #[.slice B ps.length C, .bool true])) wr := by
        rw [e']
        exact ⟨B, C, by simp [hlf], ⟨ps, HP.out, by simp only [Option.getD_some]; rw [hlf]; exact HO.out⟩, HB.out⟩
      have HF := Lib.hid fin
      clear fin
      go_wp2_with fail
      go_ret2
      exact HF.out
    · have hkl : (k : Int) < (n : Int) := by omega
      obtain ⟨r, hr⟩ : ∃ r, r = l.drop k := ⟨_, rfl⟩
      have hrl : r.length = n - k := by rw [hr, List.length_drop, hl]
      have hrne : r ≠ [] := fun e => by rw [e] at hrl; simp at hrl; omega
      rw [← hr] at HSP
      have HR := Lib.hid hr
      have HNO : Hid (firstOf r = none → ∀ W, Below w.heap.size w W → RSPost w (splitOf l) (.returned (.tuple #[.slice none 0 0, .bool false])) W) := Lib.hid fun hf W hbW => by
        rw [HSP.out, splitOf_none hrne hf]
        exact RSPost.no hbW
      clear hr
      go_wp2_with fail
      obtain ⟨W1, hW1⟩ : ∃ W1, W1 = wr.alloc (.cells #[.slice A n c, .int .i64 ((k : Nat) : Int), .bool false] 99) := ⟨_, rfl⟩
      rw [← hW1]
      have hMX : MX W1 wr.heap.size A n c k false := by rw [hW1]; exact mx_new _ _ _ _ _
      have hHW : Hold W1 A n c l := by rw [hW1]; exact (H.out.below HB.out).below ((Below.refl _ _).alloc (Nat.le_refl _) _)
      have HMX1 := Lib.hid hMX
      have HHW := Lib.hid hHW
      have HW1 := Lib.hid hW1
      clear hW1 hMX hHW
      by_cases h8 : n < k + 8
      · refine (mxint_no wr.heap.size W1 A n c k HMX1.out (by omega) (by omega) h8).mono ?_
        rintro e w2 ⟨rfl, hx2, hg2⟩
        have HX2 := Lib.hid hx2
        have HG2 := Lib.hid hg2
        clear hx2 hg2
        go_wp2_with fail
        refine (mxint_bad wr.heap.size w2 A n c k HX2.out).mono ?_
        rintro e w3 ⟨rfl, hx3, hg3⟩
        obtain ⟨x0, x1, x2, _⟩ := hx3.cells
        have HB3 := Lib.hid (below_new HW1.out (grown_trans HG2.out hg3))
        have HN := Lib.hid (HNO.out (firstOf_short (.inl (by omega))) w3 (HB.out.trans (HB3.out.mono HB.out.size)))
        clear hx3 hg3 HX2 HG2
        go_wp2_with fail
        go_ret2
        exact HN.out
      by_cases h16 : n < k + 16
      · have HI1 := Lib.hid (mxint_yes wr.heap.size W1 A n c k l HMX1.out HHW.out (by omega) (by omega))
        refine HI1.out.mono ?_
        rintro e w2 ⟨rfl, hx2, hg2⟩
        have HX2 := Lib.hid hx2
        have HG2 := Lib.hid hg2
        clear hx2 hg2 HI1
        generalize rd ((l.drop k).take 8) = ln at *
        go_wp2_with fail
        refine (mxint_no wr.heap.size w2 A n c (k + 8) HX2.out (by omega) (by omega) (by omega)).mono ?_
        rintro e w3 ⟨rfl, hx3, hg3⟩
        obtain ⟨x0, x1, x2, _⟩ := hx3.cells
        have HB3 := Lib.hid (below_new HW1.out (grown_trans HG2.out hg3))
        have HN := Lib.hid (HNO.out (firstOf_short (.inl (by omega))) w3 (HB.out.trans (HB3.out.mono HB.out.size)))
        clear hx3 hg3 HX2 HG2
        go_wp2_with fail
        go_ret2
        exact HN.out
      have HI1 := Lib.hid (mxint_yes wr.heap.size W1 A n c k l HMX1.out HHW.out (by omega) (by omega))
      refine HI1.out.mono ?_
      rintro e w2 ⟨rfl, hx2, hg2⟩
      have hap := HHW.out.apart HMX1.out (mrdr_cs _ _ _ _ _)
      have HI2 := Lib.hid (mxint_yes wr.heap.size w2 A n c (k + 8) l hx2 (HHW.out.grown hg2 hap) (by omega) (by omega))
      have HX2 := Lib.hid hx2
      have HG2 := Lib.hid hg2
      have e1 : rd ((l.drop k).take 8) = lenOf r := by rw [HR.out]; rfl
      have e2 : rd ((l.drop (k + 8)).take 8) = sumOf r := by rw [HR.out]; unfold sumOf; rw [List.drop_drop]
      obtain ⟨ln, hln⟩ : ∃ ln, ln = lenOf r := ⟨_, rfl⟩
      obtain ⟨sm, hsm⟩ : ∃ sm, sm = sumOf r := ⟨_, rfl⟩
      have lb := lenOf_bounds r
      have sb := sumOf_bounds r
      rw [← hln] at e1 lb
      rw [← hsm] at e2 sb
      rw [e1]
      rw [e2] at HI2
      have HLN := Lib.hid hln
      have HSM := Lib.hid hsm
      clear hx2 hg2 HI1 e1 e2 hap hln hsm
      go_wp2_with fail
      refine HI2.out.mono ?_
      rintro e w3 ⟨rfl, hx3, hg3⟩
      have hx3' : MX w3 wr.heap.size A n c (k + 8 + 8) false := hx3
      obtain ⟨x0, x1, x2, _⟩ := hx3.cells
      rw [Int.natCast_add, Int.natCast_add] at x1
      have x1' : w3.cell? ⟨wr.heap.size, 1, none⟩ = some (.int .i64 ((k : Int) + 16)) := by rw [x1]; congr 2
      have hbn := below_new HW1.out (grown_trans HG2.out hg3)
      have HB3 := Lib.hid hbn
      have HX3 := Lib.hid hx3'
      clear hx3 hg3 HX2 HG2 HI2 x1 hx3' hbn
      by_cases hbad : badLen r
      · have HN := Lib.hid (HNO.out (firstOf_short hbad) w3 (HB.out.trans (HB3.out.mono HB.out.size)))
        have hbd := bad_cases hbad HLN.out hrl (by omega)
        clear hbad
        rcases hbd with hbd | ⟨hbd1, hbd2⟩
        · go_wp2_with fail
          go_ret2
          exact HN.out
        · go_wp2_with fail
          go_ret2
          exact HN.out
      · obtain ⟨hg1, hg2⟩ := good_cases hbad HLN.out hrl (by omega)
        obtain ⟨m, hm⟩ : ∃ m, m = (bodyOf r).length := ⟨_, rfl⟩
        rw [← hm] at hg1 hg2
        have HBA := Lib.hid (body_at HR.out (by rw [← HLN.out]; exact hg1))
        have HM := Lib.hid hm
        have HBL := Lib.hid hbad
        subst hg1
        have hbd1 : ¬ (m : Int) < 0 := by omega
        have hbd2 : ¬ (n : Int) - ((k : Int) + 16) < (m : Int) := by omega
        obtain ⟨b, off, _, rfl, _⟩ := (H.out).at (k := 0) (by omega)
        have hmn : k + 16 + m ≤ n := hg2
        clear hm hg2 hbad lb
        have HPART : Hid (∀ W, Below w3.drew.heap.size w3.drew W → ∀ A', (c ≠ k + 16 → A' = (some (⟨b, off, none⟩ : Addr)).map (·.add (k + 16))) → (c = k + 16 → A' = some ⟨b, off, none⟩) → Hold W A' m (c - (k + 16)) (bodyOf r)) := Lib.hid fun W hbW A' hA hA0 => by
          have hh := (H.out.below HB.out).below (HB3.out.drew.trans (hbW.mono HB3.out.size))
          have h1 := hh.drop (k := k + 16) (by omega) hA hA0
          have h2 := h1.take (k := m) (by omega)
          rwa [HBA.out] at h2
        have HMX : Hid (∀ W, Below w3.drew.heap.size w3.drew W → MX W wr.heap.size (some ⟨b, off, none⟩) n c (k + 8 + 8) false) := Lib.hid fun W hbW => (hbW.block _ (Array.getElem?_eq_some_iff.1 HX3.out).1).trans HX3.out
        have hw16 : (w.heap.size : Nat) ≤ w3.heap.size := Nat.le_trans HB.out.size HB3.out.size
        have hwr : IntKind.i64.wrap ((k : Int) + 16 + (m : Int)) = (k : Int) + 16 + (m : Int) := IntWalk.i64_in _ (by omega)
        obtain ⟨ad, hA1, hA0⟩ : ∃ ad : Addr, (c ≠ k + 16 → some ad = (some (⟨b, off, none⟩ : Addr)).map (·.add (k + 16))) ∧ (c = k + 16 → some ad = some ⟨b, off, none⟩) := by
          by_cases hck : c = k + 16
          · exact ⟨_, fun h => absurd hck h, fun _ => rfl⟩
          · exact ⟨_, fun _ => rfl, fun h => absurd h hck⟩
        have HPA : Hid (∀ W, Below w3.drew.heap.size w3.drew W → Hold W (some ad) m (c - (k + 16)) (bodyOf r)) := Lib.hid fun W hbW => HPART.out W hbW (some ad) hA1 hA0
        have HA1 := Lib.hid hA1
        have HA0 := Lib.hid hA0
        clear HPART hA1 hA0
        go_wp2_with fail
        refine wp_region_stepsA (SpF wr.heap.size b off n c k m ad) (spJ w3.drew w.heap.size m (bodyOf r)) (by kernel_rfl) (by kernel_rfl) ⟨Below.refl _ _, fun _ => rfl, fun h => (by cases h), fun h => (by cases h)⟩ ?_ ?_
        · refine ⟨?_, ?_, ?_, ?_, ?_, ?_, ?_, ?_, ?_, ?_, ?_, ?_, ?_, ?_, ?_, trivial⟩
          · intro a W ls hJ hi hcl hd hoff hf
            left
            refine ⟨rfl, ?_⟩
            have h14 : ls 14 = false := hcl.no hi rfl rfl
            have e0 := hJ.2.1 h14
            go_simp
            exact ⟨_, rfl, rfl, hJ.pure (i := 0) (d := some 41) (by decide) (by decide) (by decide) (by decide) _⟩
          · intro a W ls hJ hi hcl hd hoff hf
            left
            refine ⟨rfl, ?_⟩
            have e0 : a.tmps.getD 0 undef = .slice (some ⟨b, off, none⟩) n c := hoff.slot 0 (no_dst (by kernel_rfl))
            go_simp
            exact ⟨_, rfl, rfl, hJ.pure (i := 1) (d := some 42) (by decide) (by decide) (by decide) (by decide) _⟩
          · intro a W ls hJ hi hcl hd hoff hf
            left
            refine ⟨rfl, ?_⟩
            have e0 : a.tmps.getD 6 undef = .pointer (some ⟨wr.heap.size, 0, none⟩) := hoff.slot 6 (no_dst (by kernel_rfl))
            go_simp
            exact ⟨_, rfl, rfl, hJ.pure (i := 2) (d := some 43) (by decide) (by decide) (by decide) (by decide) _⟩
          · intro a W ls hJ hi hcl hd hoff hf
            left
            refine ⟨rfl, ?_⟩
            have e0 : a.tmps.getD 43 undef = .pointer (some ⟨wr.heap.size, 0, none⟩) := hf 2 _ (hd 2 rfl) rfl
            go_simp
            exact ⟨_, rfl, rfl, hJ.pure (i := 3) (d := some 44) (by decide) (by decide) (by decide) (by decide) _⟩
          · intro a W ls hJ hi hcl hd hoff hf
            left
            refine ⟨rfl, ?_⟩
            have e0 : a.tmps.getD 44 undef = .pointer (some ⟨wr.heap.size, 0, none⟩) := hf 3 _ (hd 3 rfl) rfl
            go_simp
            exact ⟨_, rfl, rfl, hJ.pure (i := 4) (d := some 45) (by decide) (by decide) (by decide) (by decide) _⟩
          · intro a W ls hJ hi hcl hd hoff hf
            left
            refine ⟨rfl, ?_⟩
            have e0 : a.tmps.getD 45 undef = .pointer (some ⟨wr.heap.size, 1, none⟩) := hf 4 _ (hd 4 rfl) rfl
            obtain ⟨x0, x1, x2, _⟩ := (HMX.out W hJ.1).cells
            rw [Int.natCast_add, Int.natCast_add] at x1
            have x1 : W.cell? ⟨wr.heap.size, 1, none⟩ = some (.int .i64 ((k : Int) + 16)) := by rw [x1]; congr 2
            go_simp
            exact ⟨_, rfl, rfl, hJ.pure (i := 5) (d := some 46) (by decide) (by decide) (by decide) (by decide) _⟩
          · intro a W ls hJ hi hcl hd hoff hf
            left
            refine ⟨rfl, ?_⟩
            have e0 : a.tmps.getD 6 undef = .pointer (some ⟨wr.heap.size, 0, none⟩) := hoff.slot 6 (no_dst (by kernel_rfl))
            go_simp
            exact ⟨_, rfl, rfl, hJ.pure (i := 6) (d := some 47) (by decide) (by decide) (by decide) (by decide) _⟩
          · intro a W ls hJ hi hcl hd hoff hf
            left
            refine ⟨rfl, ?_⟩
            have e0 : a.tmps.getD 47 undef = .pointer (some ⟨wr.heap.size, 0, none⟩) := hf 6 _ (hd 6 rfl) rfl
            go_simp
            exact ⟨_, rfl, rfl, hJ.pure (i := 7) (d := some 48) (by decide) (by decide) (by decide) (by decide) _⟩
          · intro a W ls hJ hi hcl hd hoff hf
            left
            refine ⟨rfl, ?_⟩
            have e0 : a.tmps.getD 48 undef = .pointer (some ⟨wr.heap.size, 0, none⟩) := hf 7 _ (hd 7 rfl) rfl
            go_simp
            exact ⟨_, rfl, rfl, hJ.pure (i := 8) (d := some 49) (by decide) (by decide) (by decide) (by decide) _⟩
          · intro a W ls hJ hi hcl hd hoff hf
            left
            refine ⟨rfl, ?_⟩
            have e0 : a.tmps.getD 49 undef = .pointer (some ⟨wr.heap.size, 1, none⟩) := hf 8 _ (hd 8 rfl) rfl
            obtain ⟨x0, x1, x2, _⟩ := (HMX.out W hJ.1).cells
            rw [Int.natCast_add, Int.natCast_add] at x1
            have x1 : W.cell? ⟨wr.heap.size, 1, none⟩ = some (.int .i64 ((k : Int) + 16)) := by rw [x1]; congr 2
            go_simp
            exact ⟨_, rfl, rfl, hJ.pure (i := 9) (d := some 50) (by decide) (by decide) (by decide) (by decide) _⟩
          · intro a W ls hJ hi hcl hd hoff hf
            left
            refine ⟨rfl, ?_⟩
            have e0 : a.tmps.getD 7 undef = .int .i64 (m : Int) := hoff.slot 7 (no_dst (by kernel_rfl))
            go_simp
            exact ⟨_, rfl, rfl, hJ.pure (i := 10) (d := some 51) (by decide) (by decide) (by decide) (by decide) _⟩
          · intro a W ls hJ hi hcl hd hoff hf
            left
            refine ⟨rfl, ?_⟩
            have e0 : a.tmps.getD 50 undef = .int .i64 ((k : Int) + 16) := hf 9 _ (hd 9 rfl) rfl
            have e1 : a.tmps.getD 51 undef = .int .i64 (m : Int) := hf 10 _ (hd 10 rfl) rfl
            go_simp
            exact ⟨_, rfl, rfl, hJ.pure (i := 11) (d := some 52) (by decide) (by decide) (by decide) (by decide) _⟩
          · intro a W ls hJ hi hcl hd hoff hf
            left
            refine ⟨rfl, ?_⟩
            have e0 : a.tmps.getD 42 undef = .slice (some ⟨b, off, none⟩) n c := hf 1 _ (hd 1 rfl) rfl
            have e1 : a.tmps.getD 46 undef = .int .i64 ((k : Int) + 16) := hf 5 _ (hd 5 rfl) rfl
            have e2 : a.tmps.getD 52 undef = .int .i64 ((k : Int) + 16 + (m : Int)) := hf 11 _ (hd 11 rfl) rfl
            have q1 : ((k : Int) + 16).toNat = k + 16 := by omega
            have q2 : ((k : Int) + 16 + (m : Int)).toNat = k + 16 + m := by omega
            have q3 : (0 : Int) ≤ (k : Int) + 16 := by omega
            have q4 : (k : Int) + 16 ≤ (k : Int) + 16 + (m : Int) := by omega
            have q5 : (k : Int) + 16 + (m : Int) ≤ (c : Int) := by omega
            have q6 : k + 16 + m - (k + 16) = m := by omega
            by_cases hck : c = k + 16
            skip
            · have hm0 : m = 0 := by omega
              have hn0 : n = k + 16 := by omega
              have had : ad = ⟨b, off, none⟩ := by have := HA0.out hck; injection this
              have HMZ := Lib.hid hm0
              have q5' : (k : Int) + 16 + (m : Int) ≤ (k : Int) + 16 := by omega
              have q7 : (0 : Int) ≤ (k : Int) + 16 + (m : Int) := by omega
              have q8 : k + 16 + m - (k + 16) = m := by omega
              clear hm0 hn0
              go_simp
              refine ⟨_, rfl, ?_, hJ.pure (i := 12) (d := some 53) (by decide) (by decide) (by decide) (by decide) _⟩
              simp [SpF, gotOf]
            · have had : ad = ⟨b, off + (k + 16), none⟩ := by have := HA1.out hck; simp only [Option.map_some, Addr.add_lit, Option.some.injEq] at this; exact this
              go_simp
              refine ⟨_, rfl, ?_, hJ.pure (i := 12) (d := some 53) (by decide) (by decide) (by decide) (by decide) _⟩
              rfl
          · intro a W ls hJ hi hcl hd hoff hf
            left
            refine ⟨rfl, ?_⟩
            have e0 : a.tmps.getD 41 undef = .slice none 0 0 := hf 0 _ (hd 0 rfl) rfl
            have e1 : a.tmps.getD 53 undef = .slice (some ad) m (c - (k + 16)) := hf 12 _ (hd 12 rfl) rfl
            have h14 : ls 14 = false := hcl.no hi rfl rfl
            have hbw2 : w.heap.size ≤ W.heap.size := Nat.le_trans hw16 hJ.1.size
            have hs54 : (54 : Nat) < a.tmps.size := by rw [hoff.size]; exact (by decide : (54 : Nat) < 71)
            skip
            refine wp_copy_new (.tmp 41) (.tmp 53) rfl w.heap.size W e0 ad m (c - (k + 16)) (bodyOf r) e1 (HPA.out W hJ.1) (by omega) hbw2 ?_
            intro A2 c2 w' hown hbn
            exact ⟨_, rfl, trivial, hJ.app h14 hbn hown hs54⟩
          · intro a W ls hJ hi hcl hd hoff hf
            left
            refine ⟨rfl, ?_⟩
            obtain ⟨A2, c2, e0, ho⟩ := hJ.2.2.1 (hd 13 rfl) hi
            have hs9 : (9 : Nat) < a.tmps.size := by rw [hoff.size]; exact (by decide : (9 : Nat) < 71)
            have HHO := Lib.hid ho
            clear ho
            go_simp
            exact ⟨_, rfl, trivial, spJ.fin hJ.1 HHO.out hs9⟩
        · intro a W ls hall hJ hoff hf
          obtain ⟨A2, c2, e9, ho⟩ := hJ.2.2.2 (hall 14 (by decide))
          have HO4 := Lib.hid ho
          have HBW := Lib.hid (HB3.out.drew.trans (hJ.1.mono HB3.out.size))
          have HX4 := Lib.hid ((hJ.1.block _ (Array.getElem?_eq_some_iff.1 HX3.out).1).trans HX3.out)
          obtain ⟨ys, hys, ha⟩ := off_form hoff (mask := [false, false, false, false, false, false, false, false, false, true, false, false, false, false, false, false, false, false, false, false, false, false, false, false, false, false, false, false, false, false, false, false, false, false, false, false, false, false, false, false, false, true, true, true, true, true, true, true, true, true, true, true, true, true, true, false, false, false, false, false, false, false, false, false, false, false, false, false, false, false, false]) (by kernel_rfl)
          rw [hys] at e9
          rename_i hK
          subst ha
          refine hK _ _ ?_
          clear hf hoff hys hJ hall HMX HPA ho HX3 x0 x1' x2
          simp only [fillFrom, e9, Nat.zero_add, Nat.reduceAdd]
          go_wp2_with fail
          refine (refSum_any A2 m c2 (bodyOf r) W (Hold.of_own HO4.out) (by omega)).mono ?_
          rintro e w4 ⟨rfl, rfl⟩
          have hcr := crc_lt (bodyOf r)
          have HFS := Lib.hid (@firstOf_sum r HBL.out)
          have HFO := Lib.hid (@firstOf_ok r HBL.out)
          rw [← HSM.out] at HFS HFO
          generalize crc (bodyOf r) = z at *
          by_cases hs : sm = (z : Int)
          · have hsn := split_on HSP.out hrne (HFO.out hs)
            have HSN := Lib.hid hsn
            have HA := Lib.hid ((own_belowG HO.out HBW.out).alloc (.cells #[.slice A2 m c2] 37))
            have hbk : ∀ x, (Value.slice B ps.length C).ownBlock = some x → x < wr.heap.size := fun x hx => (HO.out.lt x hx).2
            have HBK := Lib.hid hbk
            have hpl : ps.length ≤ 1099511627776 := by omega
            have hW4 := HBW.out.size
            have hwB := HB.out.size
            clear hsn hbk
            go_wp2_with (at_builtin; refine wpList_append_own _ rfl _ _ 29 rfl w.heap.size 37 i0 (.slice none 0 0) 1 24 Try.underlying29 hi hz0 hz1 hz2 rfl (by decide) _ _ _ rfl HA.out ⟨W.heap.size, 0, none⟩ 1 1 _ rfl rfl (cell_one_new _ _ _) (by intro u hu; simp at hu; subst hu; rfl) (by unfold maxLen; omega) (by omega) (by simp; omega) ?_; intro v5 w5 hown5 hgrow5 _; have hx5 : MX w5 wr.heap.size (some ⟨b, off, none⟩) n c (k + 8 + 8) false := ((hgrow5.block _ (Nat.lt_of_lt_of_le (Array.getElem?_eq_some_iff.1 HX4.out).1 (by simp)) (fun e => by have := HBK.out _ e.symm; omega)).trans ((Below.heap_alloc _ _ _ (Array.getElem?_eq_some_iff.1 HX4.out).1).trans HX4.out)); obtain ⟨y0, y1, y2, _⟩ := hx5.cells; rw [Int.natCast_add, Int.natCast_add] at y1; have y1' : w5.cell? ⟨wr.heap.size, 1, none⟩ = some (.int .i64 ((k : Int) + 16)) := (by rw [y1]; congr 2); have HST := Lib.hid (rsplit_step (f := bodyOf r) HP.out HB.out HBW.out HO4.out HA.out hown5 hgrow5); clear hown5 hgrow5 hx5 y0 y1 y2)
            go_roundw
            case rel =>
              refine ⟨k + 16 + m, fs ++ [bodyOf r], _, hmn, by congr 1, ?_, HST.out.1, HST.out.2.1, by simp; omega, HST.out.2.2⟩
              rw [HSN.out, HR.out, List.drop_drop, ← HR.out, ← HM.out, Nat.add_assoc]
            case measure => simp only [intOf]; omega
          · have HN := Lib.hid (HNO.out (HFS.out hs) W (HB.out.trans (HBW.out.mono HB.out.size)))
            go_wp2_with fail
            go_ret2
            exact HN.out
end Go.Proofs.Ytkghjgpeobacjaa
