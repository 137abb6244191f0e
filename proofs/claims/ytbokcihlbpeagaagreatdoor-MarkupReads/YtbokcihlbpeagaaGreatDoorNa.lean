/-
  What is proved: plain mathematics: a stretch of bytes none of which begins a reference or ends a text is read piece by piece as its bytes, line ends told as one; references told from their bytes behind the first. Conditions: those in each statement.
-/
import Derived.Test.YtbokcihlbpeagaaGreatDoorRj
namespace Go.Proofs.YtbokcihlbpeagaaGreatDoor

/-- may a byte stand within a stretch -/
def inS (q : Nat) (b : UInt8) : Bool := b.toNat != q && b.toNat != 60 && b.toNat != 38
/-- how long the stretch is that begins here -/
def sl (q : Nat) : List UInt8 → Nat
  | [] => 0
  | b :: t => if inS q b = true then sl q t + 1 else 0
theorem sl_le (q : Nat) (l : List UInt8) : sl q l ≤ l.length := by
  induction l with
  | nil => simp [sl]
  | cons b t ih => simp only [sl]; split <;> simp <;> omega
theorem sl_on {q : Nat} {b : UInt8} {t : List UInt8} (h : inS q b = true) : sl q (b :: t) = sl q t + 1 := by simp [sl, h]
theorem sl_no {q : Nat} {b : UInt8} {t : List UInt8} (h : inS q b = false) : sl q (b :: t) = 0 := by simp [sl, h]
theorem sl_all (q : Nat) : ∀ (l : List UInt8), ∀ b ∈ l.take (sl q l), inS q b = true := by
  intro l
  induction l with
  | nil => simp [sl]
  | cons b t ih =>
    by_cases h : inS q b = true
    · rw [sl_on h, List.take_succ_cons]
      intro c hc
      rcases List.mem_cons.1 hc with rfl | hc
      · exact h
      · exact ih c hc
    · rw [sl_no (by simpa using h)]; simp
theorem sl_end (q : Nat) : ∀ (l : List UInt8), l.drop (sl q l) = [] ∨ ∃ b t, l.drop (sl q l) = b :: t ∧ inS q b = false := by
  intro l
  induction l with
  | nil => left; rfl
  | cons b t ih =>
    by_cases h : inS q b = true
    · rw [sl_on h, List.drop_succ_cons]; exact ih
    · rw [sl_no (by simpa using h)]; exact .inr ⟨b, t, rfl, by simpa using h⟩
theorem sl_hd {q : Nat} (hq : q = 60 ∨ q = 34 ∨ q = 39) (l : List UInt8) : hd (l.drop (sl q l)) ≠ 10 := by
  rcases sl_end q l with h | ⟨b, t, h, hb⟩
  · rw [h]; decide
  · rw [h]
    show b.toNat ≠ 10
    intro e
    unfold inS at hb
    rw [e] at hb
    rcases hq with rfl | rfl | rfl <;> exact absurd hb (by decide)
/-- the pieces of a stretch -/
def pcs : List UInt8 → List (List UInt8)
  | [] => []
  | 13 :: 10 :: t => [10] :: pcs t
  | 13 :: t => [10] :: pcs t
  | b :: t => [b] :: pcs t
theorem hd10 {t : List UInt8} (h : hd t ≠ 10) : ∀ x, t = 10 :: x → False := by rintro x rfl; exact h rfl
theorem pcs_cr {t : List UInt8} (h : hd t ≠ 10) : pcs (13 :: t) = [10] :: pcs t := by
  rw [pcs]; exact hd10 h
theorem pcs_b {b : UInt8} {t : List UInt8} (h : b ≠ 13) : pcs (b :: t) = [b] :: pcs t := by
  rw [pcs]
  · intro x hx _; exact h hx
  · intro hx; exact h hx
theorem flat1_cr {t : List UInt8} (h : hd t ≠ 10) : flat1 (13 :: t) = 10 :: flat1 t := by
  rw [flat1]; exact hd10 h
theorem flat1_b {b : UInt8} {t : List UInt8} (h : b ≠ 13) : flat1 (b :: t) = b :: flat1 t := by
  rw [flat1]
  · intro x hx _; exact h hx
  · intro hx; exact h hx
/-- white as a blank -/
def bl (v : Bool) (b : UInt8) : UInt8 := if v = true ∧ isW b.toNat = true then 32 else b
def flatV (v : Bool) (l : List UInt8) : List UInt8 := (flat1 l).map (bl v)
theorem pcs_flat : ∀ (n : Nat) (l : List UInt8), l.length ≤ n → (pcs l).flatten = flat1 l := by
  intro n
  induction n with
  | zero => intro l h; obtain rfl := List.length_eq_zero_iff.1 (by omega : l.length = 0); rfl
  | succ n ih =>
    intro l h
    cases l with
    | nil => rfl
    | cons b t =>
      have ht : t.length ≤ n := by simpa using h
      by_cases hb : b = 13
      · subst hb
        by_cases hc : hd t = 10
        · cases t with
          | nil => exact absurd hc (by decide)
          | cons c u =>
            obtain rfl : c = 10 := UInt8.toNat_inj.1 hc
            have : pcs (13 :: 10 :: u) = [10] :: pcs u := rfl
            rw [this, List.flatten_cons, ih u (by simp at ht; omega)]
            rfl
        · rw [pcs_cr hc, flat1_cr hc, List.flatten_cons, ih t ht]; rfl
      · rw [pcs_b hb, flat1_b hb, List.flatten_cons, ih t ht]; rfl
theorem pcsV_flat (v : Bool) (l : List UInt8) : ((pcs l).map (List.map (bl v))).flatten = flatV v l := by
  rw [← List.map_flatten, pcs_flat _ l (Nat.le_refl _)]; rfl
theorem bl_false (l : List (List UInt8)) : l.map (List.map (bl false)) = l := by
  have : bl false = id := by funext b; simp [bl]
  rw [this]; simp
/-- what reads pieces: of a text, or of a value -/
def stop_ (v : Bool) (q : Nat) (l : List UInt8) : Bool := if v = true then stopV q l else stopT l
def stpc (v : Bool) (l : List UInt8) : Out (List UInt8) := if v = true then stepV l else pieceO l
theorem goodTV (v : Bool) (q : Nat) : Good (stop_ v q) (fun _ => stpc v) := by
  cases v
  · exact goodT
  · exact goodV q
def qOk (v : Bool) (q : Nat) : Prop := if v = true then q = 34 ∨ q = 39 else q = 60
theorem qOk.ways {v : Bool} {q : Nat} (h : qOk v q) : q = 60 ∨ q = 34 ∨ q = 39 := by
  cases v
  · exact .inl h
  · exact .inr h
theorem stop_in {v : Bool} {q : Nat} (h : qOk v q) {b : UInt8} {t : List UInt8} (hb : inS q b = true) : stop_ v q (b :: t) = false := by
  unfold inS at hb
  simp only [Bool.and_eq_true, bne_iff_ne, ne_eq] at hb
  cases v
  · show ((b :: t).isEmpty || b.toNat == 60) = false
    simp [hb.1.2]
  · show (b.toNat == q) = false
    simp [hb.1.1]
theorem stpc_cr2 {v : Bool} (u : List UInt8) : stpc v (13 :: 10 :: u) = .ok [bl v 10] 2 := by
  cases v <;> rfl
theorem stpc_cr {v : Bool} {t : List UInt8} (h : hd t ≠ 10) : stpc v (13 :: t) = .ok [bl v 10] 1 := by
  have : pieceO (13 :: t) = .ok [10] 1 := by
    unfold pieceO
    rw [if_neg (show ¬ hd (13 :: t) = 38 by show ¬ (13 : Nat) = 38; decide), if_pos (by rfl), List.drop_one, List.tail_cons, if_neg h]
  cases v
  · show pieceO (13 :: t) = _
    rw [this]; rfl
  · show stepV (13 :: t) = _
    unfold stepV
    rw [if_neg (show ¬ (hd (13 :: t) = 60 ∨ hd (13 :: t) = 0) by show ¬ ((13 : Nat) = 60 ∨ (13 : Nat) = 0); decide), if_pos (by rfl), this]; rfl
theorem stpc_b {v : Bool} {q : Nat} {b : UInt8} {t : List UInt8} (hb : inS q b = true) (h : b ≠ 13) (h0 : b ≠ 0) : stpc v (b :: t) = .ok [bl v b] 1 := by
  unfold inS at hb
  simp only [Bool.and_eq_true, bne_iff_ne, ne_eq] at hb
  have n13 : b.toNat ≠ 13 := fun e => h (UInt8.toNat_inj.1 e)
  have n0 : b.toNat ≠ 0 := fun e => h0 (UInt8.toNat_inj.1 e)
  have hh : hd (b :: t) = b.toNat := rfl
  have hp : pieceO (b :: t) = .ok [b] 1 := by
    unfold pieceO
    rw [hh, if_neg hb.2, if_neg n13]; rfl
  cases v
  · show pieceO (b :: t) = _
    rw [hp]; simp [bl]
  · show stepV (b :: t) = _
    unfold stepV
    rw [hh, if_neg (by rintro (e | e); exact hb.1.2 e; exact n0 e), hp]
    by_cases hw : isW b.toNat = true
    · rw [if_pos hw]; simp [bl, hw, Out.map]
    · rw [if_neg hw]; simp [bl, hw]
theorem loop_stretch {v : Bool} {q : Nat} (hq : qOk v q) : ∀ (n : Nat) (P R : List UInt8), P.length ≤ n → (∀ b ∈ P, inS q b = true) → (∀ b ∈ P, b ≠ 0) → hd R ≠ 10 → ∀ k,
    loop (stop_ v q) (fun _ => stpc v) k (P ++ R) = (loop (stop_ v q) (fun _ => stpc v) (k + P.length) R).pres ((pcs P).map (List.map (bl v))) P.length := by
  intro n
  induction n with
  | zero => intro P R h _ _ _ k; obtain rfl := List.length_eq_zero_iff.1 (by omega : P.length = 0); simp [pcs, Out.pres_nil]
  | succ n ih =>
    intro P R h hP h0 hR k
    cases P with
    | nil => simp [pcs, Out.pres_nil]
    | cons b t =>
      have ht : t.length ≤ n := by simpa using h
      have hb := hP b (by simp)
      have hPt : ∀ c ∈ t, inS q c = true := fun c hc => hP c (by simp [hc])
      have h0t : ∀ c ∈ t, c ≠ 0 := fun c hc => h0 c (by simp [hc])
      have hs : stop_ v q (b :: (t ++ R)) = false := stop_in hq hb
      rw [List.cons_append]
      by_cases h13 : b = 13
      · subst h13
        by_cases hc : hd (t ++ R) = 10
        · cases t with
          | nil => exact absurd hc hR
          | cons c u =>
            obtain rfl : c = 10 := UInt8.toNat_inj.1 hc
            have e : pcs (13 :: 10 :: u) = [10] :: pcs u := rfl
            have h2 := loop_ok (goodTV v q) (k := k) hs (stpc_cr2 (v := v) (u ++ R))
            rw [List.cons_append] at hs ⊢
            rw [List.cons_append] at h2
            rw [h2, e]
            have h3 := ih u R (by simp at ht; omega) (fun c hc => hPt c (by simp [hc])) (fun c hc => h0t c (by simp [hc])) hR (k + 2)
            have h4 : (13 :: 10 :: (u ++ R)).drop 2 = u ++ R := rfl
            rw [h4, h3, Out.pres_pres]
            rw [show k + 2 + u.length = k + (13 :: 10 :: u).length by simp; omega, show 2 + u.length = (13 :: 10 :: u).length by simp; omega]
            rfl
        · have hc' : hd t ≠ 10 := by
            cases t with
            | nil => decide
            | cons c u => exact hc
          have h2 := loop_ok (goodTV v q) (k := k) hs (stpc_cr (v := v) hc)
          rw [h2, pcs_cr hc', List.drop_one, List.tail_cons, ih t R ht hPt h0t hR (k + 1), Out.pres_pres]
          rw [show k + 1 + t.length = k + (13 :: t).length by simp; omega, show 1 + t.length = (13 :: t).length by simp; omega]
          rfl
      · have h2 := loop_ok (goodTV v q) (k := k) hs (stpc_b (v := v) hb h13 (h0 b (by simp)))
        rw [h2, pcs_b h13, List.drop_one, List.tail_cons, ih t R ht hPt h0t hR (k + 1), Out.pres_pres]
        rw [show k + 1 + t.length = k + (b :: t).length by simp; omega, show 1 + t.length = (b :: t).length by simp; omega]
        rfl
/-- so far: n bytes taken, their text -/
def RunB (v : Bool) (q k : Nat) (l : List UInt8) (n : Nat) (a : List UInt8) : Prop := ∃ zs, Run (stop_ v q) (fun _ => stpc v) k l n zs ∧ zs.flatten = a
theorem RunB.start (v : Bool) (q k : Nat) (l : List UInt8) : RunB v q k l 0 [] := ⟨[], Run.start _ _, rfl⟩
theorem RunB.stretch {v : Bool} {q k n : Nat} {l a : List UInt8} (h : RunB v q k l n a) (hq : qOk v q) (h0 : ∀ b ∈ l, b ≠ 0) : RunB v q k l (n + sl q (l.drop n)) (a ++ flatV v ((l.drop n).take (sl q (l.drop n)))) := by
  obtain ⟨zs, hr, rfl⟩ := h
  refine ⟨zs ++ (pcs ((l.drop n).take (sl q (l.drop n)))).map (List.map (bl v)), ?_, by rw [List.flatten_append, pcsV_flat]⟩
  have hl : ((l.drop n).take (sl q (l.drop n))).length = sl q (l.drop n) := by rw [List.length_take]; have := sl_le q (l.drop n); omega
  have h1 := loop_stretch hq _ ((l.drop n).take (sl q (l.drop n))) ((l.drop n).drop (sl q (l.drop n))) (Nat.le_refl _) (sl_all q _) (fun b hb => h0 b (List.mem_of_mem_drop (List.mem_of_mem_take hb))) (sl_hd hq.ways _) (k + n)
  rw [List.take_append_drop, hl] at h1
  unfold Run at hr ⊢
  rw [hr, h1, Out.pres_pres, List.drop_drop, Nat.add_assoc]
theorem RunB.on {v : Bool} {q k n m : Nat} {l a x : List UInt8} (h : RunB v q k l n a) (hs : stop_ v q (l.drop n) = false) (hx : stpc v (l.drop n) = .ok x m) : RunB v q k l (n + m) (a ++ x) := by
  obtain ⟨zs, hr, rfl⟩ := h
  exact ⟨zs ++ [x], hr.on (goodTV v q) hs hx, by simp⟩
/-- what the whole gives -/
def wholeO (v : Bool) (q : Nat) (l : List UInt8) : Out (List UInt8) := (loop (stop_ v q) (fun _ => stpc v) 0 l).map List.flatten
theorem RunB.done {v : Bool} {q n : Nat} {l a : List UInt8} (h : RunB v q 0 l n a) (hs : stop_ v q (l.drop n) = true) : wholeO v q l = .ok a n := by
  obtain ⟨zs, hr, rfl⟩ := h
  unfold wholeO
  rw [hr.done hs]; rfl
theorem RunB.bad {v : Bool} {q n d : Nat} {c : Int} {l a : List UInt8} (h : RunB v q 0 l n a) (hs : stop_ v q (l.drop n) = false) (hx : stpc v (l.drop n) = .bad d c) : wholeO v q l = .bad (d + n) c := by
  obtain ⟨zs, hr, rfl⟩ := h
  unfold wholeO
  rw [hr.bad hs hx]; rfl
theorem RunB.un {v : Bool} {q n : Nat} {l a : List UInt8} (h : RunB v q 0 l n a) (hs : stop_ v q (l.drop n) = false) (hx : stpc v (l.drop n) = .un) : wholeO v q l = .un := by
  obtain ⟨zs, hr, rfl⟩ := h
  unfold wholeO
  rw [hr.un hs hx]; rfl
theorem textO_whole (l : List UInt8) : textO l = wholeO false 60 l := rfl
theorem valueO_whole (l : List UInt8) : valueO l = if hd l ≠ 34 ∧ hd l ≠ 39 then wrongO l else ((wholeO true (hd l) (l.drop 1)).more 1).on 1 := rfl

/-! ### references -/
def numR (B : Nat) (l : List UInt8) : Int := if l = [] ∨ 8 < l.length then -1 else match numA B 0 l with
  | some n => if isC (n : Int) then (n : Int) else -1
  | none => -1
/-- a reference's text, of its bytes behind the first -/
def meanR (x : List UInt8) : List UInt8 :=
  if x = [108, 116] then [60] else if x = [103, 116] then [62] else if x = [97, 109, 112] then [38]
  else if x = [97, 112, 111, 115] then [39] else if x = [113, 117, 111, 116] then [34]
  else put (if 2 < x.length ∧ Lib.hasPrefix x [35, 120] = true then numR 16 (x.drop 2) else if 1 < x.length ∧ Lib.hasPrefix x [35] = true then numR 10 (x.drop 1) else -1)
theorem put_neg : put (-1) = [] := rfl
theorem put_numR (B : Nat) (l : List UInt8) : put (numR B l) = meanN B l := by
  unfold numR meanN
  by_cases h : l = [] ∨ 8 < l.length
  · rw [if_pos h, if_pos h]; rfl
  · rw [if_neg h, if_neg h]
    cases numA B 0 l with
    | none => rfl
    | some n =>
      simp only
      by_cases hc : isC (n : Int)
      · rw [if_pos hc, if_pos hc]
      · rw [if_neg hc, if_neg hc]; rfl
theorem meanN_nil (B : Nat) : meanN B [] = [] := rfl
theorem numA_x (t : List UInt8) (a : Nat) : numA 10 a (120 :: t) = none := rfl
theorem mean_R (x : List UInt8) : mean (38 :: x) = meanR x := by
  unfold mean meanR
  simp only [List.cons.injEq, true_and]
  have e1 : Lib.hasPrefix (38 :: x) [38, 35, 120] = Lib.hasPrefix x [35, 120] := by simp [Lib.hasPrefix]
  have e2 : Lib.hasPrefix (38 :: x) [38, 35] = Lib.hasPrefix x [35] := by simp [Lib.hasPrefix]
  have e3 : (38 :: x).drop 3 = x.drop 2 := rfl
  have e4 : (38 :: x).drop 2 = x.drop 1 := rfl
  rw [e1, e2, e3, e4]
  split
  · rfl
  split
  · rfl
  split
  · rfl
  split
  · rfl
  split
  · rfl
  by_cases h1 : Lib.hasPrefix x [35, 120] = true
  · rw [if_pos h1]
    by_cases h2 : 2 < x.length
    · rw [if_pos ⟨h2, h1⟩, put_numR]
    · rw [if_neg (fun h => h2 h.1)]
      have hx : x = [35, 120] := by
        match x, h1, h2 with
        | [a, b], h1, _ => simp [Lib.hasPrefix] at h1; rw [h1.1, h1.2]
        | [a], h1, _ => simp [Lib.hasPrefix] at h1
        | [], h1, _ => simp [Lib.hasPrefix] at h1
        | a :: b :: c :: t, _, h2 => simp at h2
      subst hx
      rfl
  · have h1' : ¬ (2 < x.length ∧ Lib.hasPrefix x [35, 120] = true) := fun h => h1 h.2
    rw [if_neg h1, if_neg h1']
    by_cases h2 : Lib.hasPrefix x [35] = true
    · rw [if_pos h2]
      by_cases h3 : 1 < x.length
      · rw [if_pos ⟨h3, h2⟩, put_numR]
      · rw [if_neg (fun h => h3 h.1)]
        have hx : x.drop 1 = [] := by rw [← List.length_eq_zero_iff, List.length_drop]; omega
        rw [hx]; rfl
    · have h2' : ¬ (1 < x.length ∧ Lib.hasPrefix x [35] = true) := fun h => h2 h.2
      rw [if_neg h2, if_neg h2']; rfl
end Go.Proofs.YtbokcihlbpeagaaGreatDoor
