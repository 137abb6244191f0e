/-
  What is proved: plain facts on a journal that has frames: what is told of it, behind an Append, behind one that is cut off, and behind a crash. No condition but those in each statement.
-/
import Derived.Test.YtkghjgpeobacjaaJq
namespace Go.Proofs.Ytkghjgpeobacjaa
open Go.RowKit

structure Has (x : JS) (fs : List (List UInt8)) : Prop where
  ok : x.Ok
  dok : x.d.Ok
  area : x.d.area x.fr x.en = framesOf fs
  cn : x.cn = fs.length
  short : ∀ b ∈ fs, b.length ≤ 1048576
theorem Has.zero {s : D} (h : s.Ok) {fr to : Nat} (h1 : fr ≤ to) (h2 : to ≤ s.last.length) : Has ⟨s, fr, to, 0, 0⟩ [] :=
  ⟨⟨h1, h2, Nat.zero_le _, Nat.zero_le _⟩, h, by simp [D.area, framesOf], rfl, by simp⟩
theorem Has.split {x : JS} {fs : List (List UInt8)} (h : Has x fs) : splitOf (x.d.area x.fr x.en) = some fs := by
  rw [h.area]
  exact splitOf_frames fs fun b hb => Nat.le_trans (h.short b hb) (by decide)
/-- it is opened as it is -/
theorem Has.opens {x : JS} {fs : List (List UInt8)} (h : Has x fs) (hu : x.d.left ≠ 0) : x.d.openErr (x.fr : Int) (x.to : Int) (x.en : Int) (x.cn : Int) = 0 ∧ x.d.openFs (x.fr : Int) (x.en : Int) = fs := by
  obtain ⟨a1, a2, a3, a4⟩ := h.ok
  have hb : ¬ x.d.badArea (x.fr : Int) (x.to : Int) := by unfold D.badArea; omega
  refine ⟨?_, ?_⟩
  · unfold D.openErr
    rw [if_neg hb, if_neg (by omega), if_neg hu, Int.toNat_natCast, Int.toNat_natCast, h.split, if_pos]
    exact ⟨rfl, by rw [h.cn]; rfl⟩
  · unfold D.openFs
    rw [Int.toNat_natCast, Int.toNat_natCast, h.split]
    rfl
theorem JS.Ok.sectors {x : JS} (h : x.Ok) : x.fr + (x.en + 63) / 64 ≤ x.d.last.length := by
  obtain ⟨a1, a2, a3, a4⟩ := h
  omega
theorem cut_take {X Y : List UInt8} {o n : Nat} (h : X.take (o + n) = Y.take (o + n)) : (X.drop o).take n = (Y.drop o).take n := by
  have e : ∀ Z : List UInt8, (Z.drop o).take n = (Z.take (o + n)).drop o := fun Z => by rw [List.drop_take]; congr 1; omega
  rw [e X, e Y, h]
theorem flat_nobuf {s : D} (h : s.buf = []) : s.flat = s.last.flatten := by unfold D.flat; rw [h]; rfl
theorem cSt_flat (s : D) (k t : Int) : (s.cSt k t).flat = (s.cLast k t).flatten := rfl
theorem cLast_nobuf {s : D} (h : s.buf = []) (k t : Int) : s.cLast k t = s.last := by
  unfold D.cLast
  rw [h]
  simp [settle]
/-- a disk on which a part of an Append's writes waits, behind a crash -/
theorem cLast_part {s : D} {k0 j : Nat} {l : List UInt8} (hS : ∀ x ∈ s.last, x.length = 64) (hb : s.buf = wsOf k0 l j) (hin : k0 + j ≤ s.last.length) (k t : Int) : ∃ i q, i ≤ j ∧ (s.cLast k t).flatten = splice s.last.flatten (64 * k0) ((PL l i).take q) := by
  have hl : s.buf.length = j := by rw [hb, wsOf_length]
  unfold D.cLast
  rw [hl]
  have hp : clampN k j ≤ j := by unfold clampN; omega
  have ht : clampN t 64 ≤ 64 := by unfold clampN; omega
  generalize clampN k j = p at *
  generalize clampN t 64 = u at *
  rw [hb, wsOf_take _ _ _ _ hp]
  by_cases hpj : p < j
  · have e : (wsOf k0 l j)[p]? = some (wOf k0 l p) := by simp [wsOf, hpj]
    rw [e]
    exact ⟨p + 1, 64 * p + u, by omega, settle_torn hS k0 l p u (by omega) ht⟩
  · obtain rfl : p = j := by omega
    have e : (wsOf k0 l p)[p]? = none := by simp [wsOf]
    rw [e]
    refine ⟨p, 64 * p, Nat.le_refl _, ?_⟩
    rw [List.take_of_length_le (by rw [PL_length]; exact Nat.le_refl _)]
    exact (settle_ws hS k0 l p (by omega)).2

section
variable {x : JS} {fs : List (List UInt8)} {b : List UInt8}
theorem JS.Ok.place (h : x.Ok) (hf : x.en + 16 + b.length ≤ 64 * (x.to - x.fr)) : x.fr + x.en / 64 + (x.en % 64 + 8 + 8 + b.length + 63) / 64 ≤ x.d.last.length := by
  obtain ⟨a1, a2, a3, a4⟩ := h
  omega
/-- the frames are there, if what is ahead of the end is as it was -/
theorem Has.keep (h : Has x fs) {d : D} (hd : d.Ok) (hl : d.last.length = x.d.last.length) (hF : d.flat.take (64 * x.fr + x.en) = x.d.flat.take (64 * x.fr + x.en)) : Has ⟨d, x.fr, x.to, x.en, x.cn⟩ fs := by
  have hs := h.ok.sectors
  obtain ⟨a1, a2, a3, a4⟩ := h.ok
  refine ⟨⟨a1, by simp only; omega, a3, a4⟩, hd, ?_, h.cn, h.short⟩
  show d.area x.fr x.en = _
  rw [hd.area_flat (by omega), cut_take hF, ← h.dok.area_flat hs]
  exact h.area
/-- ... and the new one with them, if it stands there -/
theorem Has.more (h : Has x fs) {d : D} (hd : d.Ok) (hl : d.last.length = x.d.last.length) (hF : d.flat.take (64 * x.fr + x.en) = x.d.flat.take (64 * x.fr + x.en)) (hb : b.length ≤ 1048576) (hf : x.en + 16 + b.length ≤ 64 * (x.to - x.fr))
    (hN : (d.flat.drop (64 * x.fr + x.en)).take (16 + b.length) = frameOf b) : Has ⟨d, x.fr, x.to, x.en + 16 + b.length, x.cn + 1⟩ (fs ++ [b]) := by
  have hs := h.ok.sectors
  obtain ⟨a1, a2, a3, a4⟩ := h.ok
  have hk := (h.keep hd hl hF).area
  refine ⟨⟨a1, by simp only; omega, by simp only; omega, by simp only; omega⟩, hd, ?_, by simp [h.cn], ?_⟩
  · show d.area x.fr (x.en + 16 + b.length) = _
    have hk' : d.area x.fr x.en = framesOf fs := hk
    rw [hd.area_flat (by omega)] at hk' ⊢
    rw [Nat.add_assoc, take_more, hk', hN, framesOf_snoc]
  · intro c hc
    rcases List.mem_append.1 hc with hc | hc
    · exact h.short c hc
    · simp at hc
      subst hc
      exact hb
theorem appW_ok {s : D} (h : s.Ok) (k r : Nat) (b : List UInt8) : (s.appW k r b).Ok := h.wrs _ _ _
/-- what Append does to a journal on whose disk nothing waits, and a crash behind it -/
theorem Has.append (h : Has x fs) (hbuf : x.d.buf = []) (hb : b.length ≤ 1048576) (hf : x.en + 16 + b.length ≤ 64 * (x.to - x.fr)) (hu : x.d.left ≠ 0) :
    (x.err b = 0 ∧ Has (x.app b) (fs ++ [b]) ∧ (x.app b).d.buf = [] ∧ x.app b = ⟨(x.app b).d, x.fr, x.to, x.en + 16 + b.length, x.cn + 1⟩ ∧ Has ⟨(x.app b).d, x.fr, x.to, x.en, x.cn⟩ fs) ∨
    (x.err b = 32 ∧ x.app b = ⟨(x.app b).d, x.fr, x.to, x.en, x.cn⟩ ∧ ∀ k t, Has ⟨(x.app b).d.cSt k t, x.fr, x.to, x.en, x.cn⟩ fs) := by
  have hin := h.ok.place hf
  have hs := h.ok.sectors
  obtain ⟨a1, a2, a3, a4⟩ := h.ok
  have hw : x.wr b = x.d.appW (x.fr + x.en / 64) (x.en % 64) b := rfl
  have hk : 64 * x.fr + x.en = 64 * (x.fr + x.en / 64) + x.en % 64 := by omega
  have hdok := (appW_ok h.dok (x.fr + x.en / 64) (x.en % 64) b).fSt
  have hll : (x.wr b).fSt.last.length = x.d.last.length := x.wr_last b
  have hfl := flat_nobuf hbuf
  rcases app_form (b := b) hin hbuf with ⟨e1, e2, e3⟩ | ⟨e1, j, hj, e2, e3⟩
  · refine .inl ?_
    have ea : x.app b = ⟨(x.wr b).fSt, x.fr, x.to, x.en + 16 + b.length, x.cn + 1⟩ := by
      unfold JS.app
      rw [if_neg (by omega), if_neg (by omega), if_neg hu, if_pos (by rw [hw]; exact e1)]
    have ee : x.err b = 0 := by
      unfold JS.err
      rw [if_neg (by omega), if_neg (by omega), if_neg hu, hw]
      exact e1
    have eF : (x.wr b).fSt.flat = splice x.d.last.flatten (64 * (x.fr + x.en / 64)) (PL (x.d.appL (x.fr + x.en / 64) (x.en % 64) b) ((x.en % 64 + 8 + 8 + b.length + 63) / 64)) := by
      rw [hw, flat_nobuf e2, e3]
      exact (settle_ws h.dok.sec _ _ _ hin).2
    have h1 : (x.wr b).fSt.flat.take (64 * x.fr + x.en) = x.d.flat.take (64 * x.fr + x.en) := by
      have := ahead_part (b := b) (q := 64 * ((x.en % 64 + 8 + 8 + b.length + 63) / 64)) h.dok (Nat.mod_lt x.en (by decide)) hbuf hin (by omega)
      rw [List.take_of_length_le (l := PL _ _) (by rw [PL_length]; exact Nat.le_refl _)] at this
      rw [eF, hfl, hk, this]
    have h2 : ((x.wr b).fSt.flat.drop (64 * x.fr + x.en)).take (16 + b.length) = frameOf b := by
      rw [eF, hk]
      exact whole_part h.dok (Nat.mod_lt x.en (by decide)) hin
    rw [ea]
    exact ⟨ee, h.more hdok hll h1 hb hf h2, by rw [hw]; exact e2, rfl, h.keep hdok hll h1⟩
  · refine .inr ?_
    have ea : x.app b = ⟨(x.wr b).fSt, x.fr, x.to, x.en, x.cn⟩ := by
      unfold JS.app
      rw [if_neg (by omega), if_neg (by omega), if_neg hu, if_neg (by rw [hw, e1]; decide)]
    have ee : x.err b = 32 := by
      unfold JS.err
      rw [if_neg (by omega), if_neg (by omega), if_neg hu, hw]
      exact e1
    rw [ea]
    refine ⟨ee, rfl, fun k t => h.keep (hdok.cSt k t) ?_ ?_⟩
    · exact (hdok.cLast_ok k t).2.trans hll
    · obtain ⟨i, q, hi, eF⟩ := cLast_part (s := (x.d.appW (x.fr + x.en / 64) (x.en % 64) b).fSt) hdok.sec e2 (by rw [e3]; omega) k t
      rw [cSt_flat, hw, eF, e3, hk, hfl]
      exact ahead_part h.dok (Nat.mod_lt x.en (by decide)) hbuf (by omega) (by omega)
theorem cSt_same {s : D} (h : s.buf = []) (k t : Int) : s.cSt k t = ⟨s.last, [], -1⟩ := by unfold D.cSt; rw [cLast_nobuf h]
/-- a crash where nothing waits -/
theorem Has.crash (h : Has x fs) (hbuf : x.d.buf = []) (k t : Int) : Has ⟨x.d.cSt k t, x.fr, x.to, x.en, x.cn⟩ fs := by
  refine h.keep (h.dok.cSt k t) (h.dok.cLast_ok k t).2 ?_
  rw [cSt_flat, cLast_nobuf hbuf, flat_nobuf hbuf]
theorem Has.arm (h : Has x fs) (n : Int) (h1 : -9223372036854775808 ≤ n) (h2 : n ≤ 9223372036854775807) : Has ⟨x.d.aSt n, x.fr, x.to, x.en, x.cn⟩ fs := by
  have e1 : (x.d.aSt n).last = x.d.last := by unfold D.aSt; split <;> rfl
  have e2 : (x.d.aSt n).buf = x.d.buf := by unfold D.aSt; split <;> rfl
  refine h.keep (h.dok.aSt n h1 h2) (by rw [e1]) ?_
  unfold D.flat
  rw [e1, e2]
end
end Go.Proofs.Ytkghjgpeobacjaa
