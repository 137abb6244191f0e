/-
  What is proved: plain facts on pairs by rising keys: what a batch makes of them, change by change (allC, as the document has it), and what the last changes make of them in one go (mrg) are one. No program in it. No condition but those in each statement.
-/
import Derived.Test.YtbfhlleipeipbaaFi
namespace Go.Proofs.Ytbfhlleipeipbaa
open Go.Lib Go.Sort

theorem hasKey_self (c : Cg) : hasKey (ky c) c = true := by unfold hasKey; exact beq_self_eq_true _
theorem hasKey_iff {k : List UInt8} {c : Cg} : hasKey k c = true ↔ ky c = k := by unfold hasKey; exact beq_iff_eq
theorem hasKey_no {k : List UInt8} {c : Cg} (h : ky c ≠ k) : hasKey k c = false := by
  cases hk : hasKey k c with
  | false => rfl
  | true => exact absurd (hasKey_iff.1 hk) h
theorem find_none_of {k : List UInt8} {l : List Cg} (h : ∀ z ∈ l, ky z ≠ k) : l.find? (hasKey k) = none :=
  List.find?_eq_none.2 fun z hz => by rw [hasKey_no (h z hz)]; exact Bool.false_ne_true
theorem klt_trans {x y z : Cg} (h : klt x y = true) (k : klt y z = true) : klt x z = true := klt_swo.trans x y z h k

/-- Rising lists with the same look-ups are one. -/
theorem asc_unique : ∀ (a b : List Cg), Asc a → Asc b → (∀ k, a.find? (hasKey k) = b.find? (hasKey k)) → a = b
  | [], [], _, _, _ => rfl
  | [], y :: b, _, _, h => by
    have := h (ky y)
    rw [List.find?_cons_of_pos (hasKey_self y)] at this
    cases this
  | x :: a, [], _, _, h => by
    have := h (ky x)
    rw [List.find?_cons_of_pos (hasKey_self x)] at this
    cases this
  | x :: a, y :: b, ha, hb, h => by
    have ha' := List.pairwise_cons.1 ha
    have hb' := List.pairwise_cons.1 hb
    have hx := h (ky x)
    rw [List.find?_cons_of_pos (hasKey_self x)] at hx
    have hy := h (ky y)
    rw [List.find?_cons_of_pos (hasKey_self y)] at hy
    have mx : x ∈ y :: b := List.mem_of_find?_eq_some hx.symm
    have my : y ∈ x :: a := List.mem_of_find?_eq_some hy
    have e : x = y := by
      rcases List.mem_cons.1 mx with e | m1
      · exact e
      · rcases List.mem_cons.1 my with e | m2
        · exact e.symm
        · have := lt_asym klt_swo (hb'.1 x m1)
          rw [show ltOf kcmp x y = klt x y from rfl, ha'.1 y m2] at this
          cases this
    subst e
    rw [asc_unique a b ha'.2 hb'.2 fun k => ?_]
    by_cases hk : ky x = k
    · rw [find_none_of fun z hz e => klt_ne (ha'.1 z hz) (hk.trans e.symm), find_none_of fun z hz e => klt_ne (hb'.1 z hz) (hk.trans e.symm)]
    · have := h k
      rwa [List.find?_cons_of_neg (by rw [hasKey_no hk]; exact Bool.false_ne_true), List.find?_cons_of_neg (by rw [hasKey_no hk]; exact Bool.false_ne_true)] at this

/-! ### change by change -/
/-- The pairs behind a change, from some pair on; laid: is it laid already (or is nothing to be laid)? -/
def doGo (c : Cg) : Bool → List Cg → List Cg
  | laid, [] => if laid then [] else [c]
  | laid, x :: l => if ky x == ky c then doGo c laid l else if !laid && klt c x then c :: x :: doGo c true l else x :: doGo c laid l
def bare (c : Cg) : Cg := ⟨c.key, c.val, false⟩
def doC (l : List Cg) (c : Cg) : List Cg := doGo (bare c) c.gone l
def allC (l b : List Cg) : List Cg := b.foldl doC l
theorem bare_ky (c : Cg) : ky (bare c) = ky c := rfl
theorem doGo_spec (c : Cg) : ∀ (l : List Cg) (laid : Bool), Asc l → Asc (doGo c laid l) ∧ (∀ z ∈ doGo c laid l, (laid = false ∧ z = c) ∨ z ∈ l) ∧ ∀ k, (doGo c laid l).find? (hasKey k) = if ky c = k then (if laid then none else some c) else l.find? (hasKey k)
  | [], laid, _ => by
    cases laid with
    | true => exact ⟨List.Pairwise.nil, fun z hz => (by cases hz), fun k => by by_cases h : ky c = k <;> simp [doGo, h]⟩
    | false =>
      refine ⟨List.pairwise_singleton _ _, fun z hz => .inl ⟨rfl, List.mem_singleton.1 hz⟩, fun k => ?_⟩
      by_cases h : ky c = k
      · simp [doGo, h, hasKey_iff.2 h]
      · simp [doGo, h, hasKey_no h]
  | x :: l, laid, ha => by
    have ha' := List.pairwise_cons.1 ha
    obtain ⟨i1, i2, i3⟩ := doGo_spec c l laid ha'.2
    unfold doGo
    by_cases hk : ky x = ky c
    · rw [if_pos (beq_iff_eq.2 hk)]
      refine ⟨i1, fun z hz => (i2 z hz).imp id (List.mem_cons_of_mem x), fun k => ?_⟩
      rw [i3 k]
      by_cases h : ky c = k
      · rw [if_pos h, if_pos h]
      · rw [if_neg h, if_neg h, List.find?_cons_of_neg (by rw [hasKey_no (fun e => h (hk.symm.trans e))]; exact Bool.false_ne_true)]
    · rw [if_neg (fun e => hk (beq_iff_eq.1 e))]
      by_cases hc : (!laid && klt c x) = true
      · rw [if_pos hc]
        obtain ⟨hl, hcx⟩ := Bool.and_eq_true_iff.1 hc
        have hl' : laid = false := by simpa using hl
        obtain ⟨j1, j2, j3⟩ := doGo_spec c l true ha'.2
        have j2' : ∀ z ∈ doGo c true l, z ∈ l := fun z hz => (j2 z hz).resolve_left fun e => (by cases e.1)
        refine ⟨List.pairwise_cons.2 ⟨fun z hz => ?_, List.pairwise_cons.2 ⟨fun z hz => ha'.1 z (j2' z hz), j1⟩⟩, fun z hz => ?_, fun k => ?_⟩
        · rcases List.mem_cons.1 hz with rfl | hz
          · exact hcx
          · exact klt_trans hcx (ha'.1 z (j2' z hz))
        · rcases List.mem_cons.1 hz with rfl | hz
          · exact .inl ⟨hl', rfl⟩
          · rcases List.mem_cons.1 hz with rfl | hz
            · exact .inr List.mem_cons_self
            · exact .inr (List.mem_cons_of_mem x (j2' z hz))
        · by_cases h : ky c = k
          · rw [if_pos h, List.find?_cons_of_pos (hasKey_iff.2 h), hl']; rfl
          · rw [if_neg h, List.find?_cons_of_neg (by rw [hasKey_no h]; exact Bool.false_ne_true)]
            by_cases hx : ky x = k
            · rw [List.find?_cons_of_pos (hasKey_iff.2 hx), List.find?_cons_of_pos (hasKey_iff.2 hx)]
            · rw [List.find?_cons_of_neg (by rw [hasKey_no hx]; exact Bool.false_ne_true), List.find?_cons_of_neg (by rw [hasKey_no hx]; exact Bool.false_ne_true), j3 k, if_neg h]
      · rw [if_neg hc]
        refine ⟨List.pairwise_cons.2 ⟨fun z hz => ?_, i1⟩, fun z hz => ?_, fun k => ?_⟩
        · rcases i2 z hz with ⟨h1, rfl⟩ | hz
          · have : klt z x = false := by
              cases hx : klt z x with
              | false => rfl
              | true => exact absurd (by rw [h1, hx]; rfl) hc
            exact klt_total this (fun e => hk e.symm)
          · exact ha'.1 z hz
        · rcases List.mem_cons.1 hz with rfl | hz
          · exact .inr List.mem_cons_self
          · exact (i2 z hz).imp id (List.mem_cons_of_mem x)
        · by_cases hx : ky x = k
          · rw [List.find?_cons_of_pos (hasKey_iff.2 hx), List.find?_cons_of_pos (hasKey_iff.2 hx), if_neg (fun h => hk (hx.trans h.symm))]
          · rw [List.find?_cons_of_neg (by rw [hasKey_no hx]; exact Bool.false_ne_true), List.find?_cons_of_neg (by rw [hasKey_no hx]; exact Bool.false_ne_true), i3 k]
/-- What a key's last change makes of what stood there. -/
def became (o : Option Cg) (was : Option Cg) : Option Cg := match o with
  | none => was
  | some c => if c.gone then none else some (bare c)
theorem allC_spec : ∀ (b l : List Cg), Asc l → Asc (allC l b) ∧ ∀ k, (allC l b).find? (hasKey k) = became (b.reverse.find? (hasKey k)) (l.find? (hasKey k))
  | [], l, h => ⟨h, fun _ => rfl⟩
  | c :: b, l, h => by
    obtain ⟨d1, _, d3⟩ := doGo_spec (bare c) l c.gone h
    obtain ⟨a1, a2⟩ := allC_spec b (doC l c) d1
    refine ⟨a1, fun k => ?_⟩
    show (allC (doC l c) b).find? (hasKey k) = _
    rw [a2 k, List.reverse_cons, List.find?_append]
    cases hf : b.reverse.find? (hasKey k) with
    | some v => rfl
    | none =>
      show (doC l c).find? (hasKey k) = became ([c].find? (hasKey k)) _
      unfold doC
      rw [d3 k, bare_ky]
      by_cases h : ky c = k
      · rw [if_pos h, List.find?_cons_of_pos (hasKey_iff.2 h)]; rfl
      · rw [if_neg h, List.find?_cons_of_neg (by rw [hasKey_no h]; exact Bool.false_ne_true)]; rfl

/-! ### in one go -/
/-- What is left of pairs from the key t on. -/
def restOf (Q : List Cg) (t : List UInt8) : List Cg := Q.drop (lowN Q t + if isIn Q t then 1 else 0)
def mrg : List Cg → List Cg → List Cg
  | [], Q => Q
  | c :: L, Q => Q.take (lowN Q (ky c)) ++ (if c.gone then [] else [c]) ++ mrg L (restOf Q (ky c))
theorem low_parts (t : List UInt8) : ∀ Q : List Cg, Q.take (lowN Q t) = Q.takeWhile (lessT t) ∧ Q.drop (lowN Q t) = Q.dropWhile (lessT t)
  | [] => by simp
  | x :: Q => by
    obtain ⟨i1, i2⟩ := low_parts t Q
    unfold lowN at *
    by_cases h : lessT t x = true
    · rw [List.takeWhile_cons_of_pos h, List.dropWhile_cons_of_pos h, List.length_cons, List.take_succ_cons, List.drop_succ_cons, i1, i2]
      exact ⟨rfl, rfl⟩
    · rw [List.takeWhile_cons_of_neg h, List.dropWhile_cons_of_neg h]; exact ⟨rfl, rfl⟩
theorem rest_form (Q : List Cg) (t : List UInt8) : restOf Q t = (if isIn Q t then (Q.dropWhile (lessT t)).tail else Q.dropWhile (lessT t)) := by
  unfold restOf
  rw [← List.drop_drop, (low_parts t Q).2]
  cases isIn Q t <;> simp
theorem bare_self {c : Cg} (h : c.gone = false) : bare c = c := by
  obtain ⟨a, b, g⟩ := c
  simp only at h
  subst h
  rfl
theorem take_less {Q : List Cg} {t : List UInt8} : ∀ z ∈ Q.take (lowN Q t), compareBytes (ky z) t < 0 := fun z hz => by
  rw [(low_parts t Q).1] at hz
  have : ∀ (l : List Cg), z ∈ l.takeWhile (lessT t) → lessT t z = true := by
    intro l
    induction l with
    | nil => intro h; cases h
    | cons x l ih =>
      intro h
      by_cases hx : lessT t x = true
      · rw [List.takeWhile_cons_of_pos hx] at h
        rcases List.mem_cons.1 h with rfl | h
        · exact hx
        · exact ih h
      · rw [List.takeWhile_cons_of_neg hx] at h; cases h
  exact of_decide_eq_true (this Q hz)
/-- Behind the key t: its parts, of rising pairs. -/
theorem rest_spec {Q : List Cg} (hQ : Asc Q) (t : List UInt8) : Asc (restOf Q t) ∧ (∀ z ∈ restOf Q t, compareBytes t (ky z) < 0) ∧ (∀ z ∈ restOf Q t, z ∈ Q) ∧
    ∀ k, k ≠ t → ((Q.take (lowN Q t)).find? (hasKey k)).or ((restOf Q t).find? (hasKey k)) = Q.find? (hasKey k) := by
  have hD : Asc (Q.dropWhile (lessT t)) := List.Pairwise.sublist (List.dropWhile_sublist _) hQ
  have hsub : ∀ z ∈ Q.dropWhile (lessT t), z ∈ Q := fun z hz => (List.dropWhile_sublist _).subset hz
  have hsplit : Q.take (lowN Q t) ++ Q.dropWhile (lessT t) = Q := by rw [(low_parts t Q).1]; exact List.takeWhile_append_dropWhile
  have hhead : ∀ y D, Q.dropWhile (lessT t) = y :: D → lessT t y = false := by
    intro y D
    have : ∀ (l : List Cg), l.dropWhile (lessT t) = y :: D → lessT t y = false := by
      intro l
      induction l with
      | nil => intro h; cases h
      | cons x l ih =>
        intro h
        by_cases hx : lessT t x = true
        · rw [List.dropWhile_cons_of_pos hx] at h; exact ih h
        · rw [List.dropWhile_cons_of_neg hx] at h
          injection h with h1 _
          rw [← h1]; simpa using hx
    exact this Q
  rw [rest_form]
  cases hD0 : Q.dropWhile (lessT t) with
  | nil =>
    rw [hD0] at hsplit
    have e : (if isIn Q t = true then ([] : List Cg).tail else []) = [] := by cases isIn Q t <;> rfl
    rw [e]
    refine ⟨List.Pairwise.nil, fun z hz => (by cases hz), fun z hz => (by cases hz), fun k _ => ?_⟩
    conv => rhs; rw [← hsplit]
    rw [List.append_nil]; simp
  | cons y D =>
    rw [hD0] at hD hsub hsplit
    have hy := hhead y D hD0
    have hD' := List.pairwise_cons.1 hD
    have hy' : ¬ compareBytes (ky y) t < 0 := of_decide_eq_false hy
    have hin : isIn Q t = decide (compareBytes (ky y) t = 0) := by unfold isIn; rw [hD0]
    by_cases h0 : compareBytes (ky y) t = 0
    · rw [hin, decide_eq_true h0, if_pos rfl, List.tail_cons]
      have ek : ky y = t := cb_zero _ _ h0
      refine ⟨hD'.2, fun z hz => ?_, fun z hz => hsub z (List.mem_cons_of_mem y hz), fun k hk => ?_⟩
      · rw [← ek]; exact (klt_iff y z).1 (hD'.1 z hz)
      · conv => rhs; rw [← hsplit]
        rw [List.find?_append, List.find?_cons_of_neg (by rw [hasKey_no (fun e => hk (e.symm.trans ek))]; exact Bool.false_ne_true)]
    · rw [hin, decide_eq_false h0, if_neg Bool.false_ne_true]
      have hgt : compareBytes t (ky y) < 0 := by rw [cb_neg]; omega
      refine ⟨hD, fun z hz => ?_, hsub, fun k _ => ?_⟩
      · rcases List.mem_cons.1 hz with rfl | hz
        · exact hgt
        · exact cb_trans _ _ _ hgt ((klt_iff y z).1 (hD'.1 z hz))
      · conv => rhs; rw [← hsplit]
        rw [List.find?_append]
theorem mrg_spec : ∀ (L Q : List Cg), Asc L → Asc Q → Asc (mrg L Q) ∧ (∀ z ∈ mrg L Q, z ∈ L ∨ z ∈ Q) ∧ ∀ k, (mrg L Q).find? (hasKey k) = became (L.find? (hasKey k)) (Q.find? (hasKey k))
  | [], Q, _, hQ => ⟨hQ, fun _ hz => .inr hz, fun _ => rfl⟩
  | c :: L, Q, hL, hQ => by
    have hL' := List.pairwise_cons.1 hL
    obtain ⟨r1, r2, r3, r4⟩ := rest_spec hQ (ky c)
    obtain ⟨m1, m2, m3⟩ := mrg_spec L (restOf Q (ky c)) hL'.2 r1
    have hT : ∀ z ∈ Q.take (lowN Q (ky c)), klt z c = true := fun z hz => (klt_iff z c).2 (take_less z hz)
    have hM : ∀ z ∈ mrg L (restOf Q (ky c)), klt c z = true := fun z hz => by
      rcases m2 z hz with h | h
      · exact hL'.1 z h
      · exact (klt_iff c z).2 (r2 z h)
    have hTa : Asc (Q.take (lowN Q (ky c))) := List.Pairwise.sublist (List.take_sublist _ _) hQ
    unfold mrg
    refine ⟨?_, fun z hz => ?_, fun k => ?_⟩
    · rw [List.append_assoc]
      refine List.pairwise_append.2 ⟨hTa, ?_, fun x hx y hy => ?_⟩
      · cases c.gone with
        | true => exact m1
        | false => exact List.pairwise_cons.2 ⟨hM, m1⟩
      · rcases List.mem_append.1 hy with hy | hy
        · cases hg : c.gone with
          | true => rw [hg] at hy; cases hy
          | false => rw [hg] at hy; rw [List.mem_singleton.1 hy]; exact hT x hx
        · exact klt_trans (hT x hx) (hM y hy)
    · rcases List.mem_append.1 hz with hz | hz
      · rcases List.mem_append.1 hz with hz | hz
        · exact .inr (List.mem_of_mem_take hz)
        · cases hg : c.gone with
          | true => rw [hg] at hz; cases hz
          | false => rw [hg] at hz; rw [List.mem_singleton.1 hz]; exact .inl List.mem_cons_self
      · exact (m2 z hz).imp (List.mem_cons_of_mem c) (r3 z)
    · rw [List.find?_append, List.find?_append, m3 k]
      by_cases hk : ky c = k
      · have t0 : (Q.take (lowN Q (ky c))).find? (hasKey k) = none := find_none_of fun z hz e => klt_ne (hT z hz) (e.trans hk.symm)
        rw [t0, List.find?_cons_of_pos (hasKey_iff.2 hk)]
        cases hg : c.gone with
        | false => simp [hasKey_iff.2 hk, became, hg, bare_self hg]
        | true =>
          have l0 : L.find? (hasKey k) = none := find_none_of fun z hz e => klt_ne (hL'.1 z hz) (hk.trans e.symm)
          have q0 : (restOf Q (ky c)).find? (hasKey k) = none := find_none_of fun z hz e => klt_ne ((klt_iff c z).2 (r2 z hz)) (hk.trans e.symm)
          rw [l0, q0]; simp [became, hg]
      · have x0 : (if c.gone = true then [] else [c] : List Cg).find? (hasKey k) = none := by
          cases c.gone <;> simp [hasKey_no hk]
        rw [x0, List.find?_cons_of_neg (by rw [hasKey_no hk]; exact Bool.false_ne_true), Option.or_none]
        cases hl : L.find? (hasKey k) with
        | none =>
          show (((Q.take (lowN Q (ky c))).find? (hasKey k)).or ((restOf Q (ky c)).find? (hasKey k))) = Q.find? (hasKey k)
          exact r4 k (fun e => hk e.symm)
        | some v =>
          have hv := List.mem_of_find?_eq_some hl
          have hvk := hasKey_iff.1 (List.find?_some hl)
          have t0 : (Q.take (lowN Q (ky c))).find? (hasKey k) = none := find_none_of fun z hz e => klt_ne (klt_trans (hT z hz) (hL'.1 v hv)) (e.trans hvk.symm)
          rw [t0]; rfl
/-- Both are one. -/
theorem mrg_all {P l L : List Cg} (hP : Asc P) (h : LastOf l L) : mrg L P = allC P l := by
  obtain ⟨a1, a2⟩ := allC_spec l P hP
  obtain ⟨m1, _, m3⟩ := mrg_spec L P h.1 hP
  exact asc_unique _ _ m1 a1 fun k => by rw [m3 k, a2 k, h.2 k]
theorem allC_asc {P l : List Cg} (hP : Asc P) : Asc (allC P l) := (allC_spec l P hP).1
end Go.Proofs.Ytbfhlleipeipbaa
