/-
  What is proved: plain mathematics of markup: what is read of a document that is cut off where a fault is. Conditions: those in each statement.
-/
import Derived.Test.YtbokcihlbpeagaaDoorMn
import Derived.Lib.IndexLaws
namespace Go.Proofs.YtbokcihlbpeagaaDoor

/-! ### what a cut-off list begins with -/
theorem hd_take {l : List UInt8} {m : Nat} (h : 1 ≤ m) : hd (l.take m) = hd l := by
  cases l with
  | nil => simp
  | cons b t => cases m with
    | zero => omega
    | succ m => rfl
theorem hd_zero (l : List UInt8) : hd (l.take 0) = 0 := by simp [hd]
theorem hd_or (l : List UInt8) (m : Nat) : hd (l.take m) = hd l ∨ hd (l.take m) = 0 := by
  cases m with
  | zero => right; exact hd_zero l
  | succ m => left; exact hd_take (by omega)
theorem drop_of_take (l : List UInt8) (m n : Nat) : (l.take m).drop n = (l.drop n).take (m - n) := List.drop_take ..
theorem wh_take {l : List UInt8} : ∀ {m : Nat}, wh l ≤ m → wh (l.take m) = wh l := by
  induction l with
  | nil => intro m _; simp [wh]
  | cons b t ih =>
    intro m h
    cases m with
    | zero =>
      simp only [wh] at h
      by_cases hb : isW b.toNat = true
      · rw [if_pos hb] at h; omega
      · simp [wh, hb]
    | succ m =>
      simp only [List.take_succ_cons, wh] at h ⊢
      by_cases hb : isW b.toNat = true
      · rw [if_pos hb] at h; rw [if_pos hb, if_pos hb, ih (by omega)]
      · rw [if_neg hb, if_neg hb]
theorem wh_min (l : List UInt8) : ∀ (m : Nat), wh (l.take m) = min (wh l) m := by
  induction l with
  | nil => intro m; simp [wh]
  | cons b t ih =>
    intro m
    cases m with
    | zero => simp [wh]
    | succ m =>
      simp only [List.take_succ_cons, wh]
      by_cases hb : isW b.toNat = true
      · rw [if_pos hb, if_pos hb, ih m]; omega
      · rw [if_neg hb, if_neg hb]; omega
theorem nx_zero_fits {l : List UInt8} {first : Bool} (h : (nx l).2 = 0) : ¬ fits first (nx l).1 = true := by
  intro hf
  have := nx_pos hf
  omega
theorem fits_take {l : List UInt8} {m : Nat} {first : Bool} (h : ¬ fits first (nx l).1 = true) : ¬ fits first (nx (l.take m)).1 = true := by
  by_cases h0 : (nx (l.take m)).2 = 0
  · exact nx_zero_fits h0
  · rw [← nx_take h0]; exact h
theorem nmR_take : ∀ (n : Nat) (l : List UInt8) (m : Nat), l.length = n → nmR l ≤ m → nmR (l.take m) = nmR l := by
  intro n
  induction n using Nat.strongRecOn with
  | ind n ih =>
    intro l m hn h
    by_cases hf : fits false (nx l).1 = true
    · have hp := nx_pos hf
      rw [nmR_on hf] at h ⊢
      have e := nx_take' (l := l) (k := m) (by omega) (by omega)
      rw [nmR_on (by rw [e]; exact hf), e, drop_of_take, ih _ (by rw [List.length_drop]; omega) (l.drop (nx l).2) (m - (nx l).2) rfl (by omega)]
    · rw [nmR_no hf, nmR_no (fits_take hf)]
theorem nm_take {l : List UInt8} {m : Nat} (h : nm l ≤ m) : nm (l.take m) = nm l := by
  by_cases hf : fits true (nx l).1 = true
  · have hp := nx_pos hf
    rw [nm_on hf] at h ⊢
    have e := nx_take' (l := l) (k := m) (by omega) (by omega)
    rw [nm_on (by rw [e]; exact hf), e, drop_of_take, nmR_take _ (l.drop (nx l).2) (m - (nx l).2) rfl (by omega)]
  · rw [nm_no hf, nm_no (fits_take hf)]
theorem prefix_iff {l p : List UInt8} : Lib.hasPrefix l p = true ↔ ∃ t, l = p ++ t := by
  unfold Lib.hasPrefix
  rw [List.isPrefixOf_iff_prefix]
  constructor
  · rintro ⟨t, h⟩; exact ⟨t, h.symm⟩
  · rintro ⟨t, h⟩; exact ⟨t, h.symm⟩
theorem prefix_take {l p : List UInt8} {m : Nat} (h : Lib.hasPrefix l p = true) (hm : p.length ≤ m) : Lib.hasPrefix (l.take m) p = true := by
  obtain ⟨t, rfl⟩ := prefix_iff.1 h
  exact prefix_iff.2 ⟨t.take (m - p.length), by rw [List.take_append, List.take_of_length_le hm]⟩
theorem prefix_of_take {l p : List UInt8} {m : Nat} (h : Lib.hasPrefix (l.take m) p = true) : Lib.hasPrefix l p = true := by
  obtain ⟨t, ht⟩ := prefix_iff.1 h
  refine prefix_iff.2 ⟨t ++ l.drop m, ?_⟩
  rw [← List.append_assoc, ← ht, List.take_append_drop]
theorem occ_take {l p : List UInt8} {m i : Nat} (h : Lib.occAt (l.take m) p i = true) : Lib.occAt l p i = true := by
  unfold Lib.occAt at h ⊢
  rw [drop_of_take] at h
  exact prefix_of_take (p := p) h
theorem index_take {l p : List UInt8} {m : Nat} (h : 0 ≤ Lib.index l p) (hm : (Lib.index l p).toNat + p.length ≤ m) : Lib.index (l.take m) p = Lib.index l p := by
  rcases Lib.index_spec l p with ⟨h1, _⟩ | ⟨i, h1, h2, h3, h4⟩
  · omega
  · rw [h1] at hm ⊢
    simp only [Int.toNat_natCast] at hm
    refine Lib.index_first (by rw [List.length_take]; omega) ?_ ?_
    · unfold Lib.occAt at h3 ⊢
      rw [drop_of_take]
      exact prefix_take (p := p) h3 (by omega)
    · intro j hj
      cases ho : Lib.occAt (l.take m) p j with
      | false => rfl
      | true => have := h4 j hj; rw [occ_take ho] at this; exact absurd this (by simp)

/-! ### what is read of a cut-off list: the same, or that it is not ended -/
section
variable {α β : Type}
/-- what is read whole is read of every part that holds it (or it is not ended there); a fault lies within, and cut off there, it is not ended -/
def TkO (p : List UInt8 → Out α) (l : List UInt8) : Prop := ∀ a n, p l = .ok a n → ∀ m, n ≤ m → p (l.take m) = .ok a n ∨ p (l.take m) = .un
def TkB (p : List UInt8 → Out α) (l : List UInt8) : Prop := ∀ d c, p l = .bad d c → d < l.length ∧ (c = 82 ∨ c = 83) ∧ p (l.take d) = .un
def Tk (p : List UInt8 → Out α) : Prop := ∀ l, TkO p l ∧ TkB p l
theorem wrongO_bad {l : List UInt8} {d : Nat} {c : Int} (h : (wrongO l : Out α) = .bad d c) : d = 0 ∧ c = 82 ∧ 0 < l.length := by
  unfold wrongO at h
  split at h
  · cases h
  · rename_i h1; cases h; exact ⟨rfl, rfl, List.length_pos_iff.2 h1⟩
theorem wrongO_nil : (wrongO [] : Out α) = .un := by unfold wrongO; rw [if_pos rfl]
theorem Out.map_bad {f : α → β} {o : Out α} {d : Nat} {c : Int} (h : o.map f = .bad d c) : o = .bad d c := by
  cases o with
  | ok a m => cases h
  | bad d c => cases h; rfl
  | un => cases h
theorem Out.on_bad {o : Out α} {m d : Nat} {c : Int} (h : o.on m = .bad d c) : ∃ j, o = .bad j c ∧ d = j + m := by
  cases o with
  | ok a m => cases h
  | bad d c => cases h; exact ⟨d, rfl, rfl⟩
  | un => cases h
theorem Out.more_bad {o : Out α} {m d : Nat} {c : Int} (h : o.more m = .bad d c) : o = .bad d c := by
  cases o with
  | ok a m => cases h
  | bad d c => cases h; rfl
  | un => cases h
theorem Out.fin_bad {o : Out α} {d : Nat} {c : Int} (h : o.fin = .bad d c) : o = .bad d c ∨ (o = .un ∧ d = 0 ∧ c = 84) := by
  cases o with
  | ok a m => cases h
  | bad d c => cases h; exact .inl rfl
  | un => cases h; exact .inr ⟨rfl, rfl, rfl⟩
theorem Out.pres_bad {o : Out (List α)} {zs : List α} {m d : Nat} {c : Int} (h : o.pres zs m = .bad d c) : ∃ j, o = .bad j c ∧ d = j + m := by
  cases o with
  | ok a m => cases h
  | bad d c => cases h; exact ⟨d, rfl, rfl⟩
  | un => cases h
theorem Out.pres_ok {o : Out (List α)} {zs bs : List α} {m n : Nat} (h : o.pres zs m = .ok bs n) : ∃ cs j, o = .ok cs j ∧ bs = zs ++ cs ∧ n = j + m := by
  cases o with
  | ok a m => cases h; exact ⟨_, _, rfl, rfl, rfl⟩
  | bad d c => cases h
  | un => cases h
theorem Out.seq_bad {o : Out α} {l : List UInt8} {g : α → Nat → List UInt8 → Out β} {d : Nat} {c : Int} (h : o.seq l g = .bad d c) :
    o = .bad d c ∨ ∃ a n j, o = .ok a n ∧ g a n (l.drop n) = .bad j c ∧ d = j + n := by
  cases o with
  | ok a n => obtain ⟨j, h1, h2⟩ := Out.on_bad h; exact .inr ⟨a, n, j, rfl, h1, h2⟩
  | bad d c => cases h; exact .inl rfl
  | un => cases h
theorem Out.seq_ok' {o : Out α} {l : List UInt8} {g : α → Nat → List UInt8 → Out β} {b : β} {n : Nat} (h : o.seq l g = .ok b n) :
    ∃ a i j, o = .ok a i ∧ g a i (l.drop i) = .ok b j ∧ n = j + i := by
  cases o with
  | ok a i => obtain ⟨j, h1, h2⟩ := Out.on_ok h; exact ⟨a, i, j, rfl, h1, h2⟩
  | bad d c => cases h
  | un => cases h
theorem Tk.map {p : List UInt8 → Out α} (H : Tk p) (f : α → β) : Tk (fun l => (p l).map f) := by
  intro l
  constructor
  · intro b n h m hm
    obtain ⟨a, h1, rfl⟩ := Out.map_ok h
    rcases (H l).1 a n h1 m hm with e | e
    · left; simp only [e]; rfl
    · right; simp only [e]; rfl
  · intro d c h
    obtain ⟨h1, h2, e⟩ := (H l).2 d c (Out.map_bad h)
    exact ⟨h1, h2, by simp only [e]; rfl⟩
theorem Tk.seq {p : List UInt8 → Out α} {g : α → Nat → List UInt8 → Out β} (H : Tk p) (G : ∀ a n, Tk (g a n)) : Tk (fun l => (p l).seq l g) := by
  intro l
  constructor
  · intro b n h m hm
    obtain ⟨a, i, j, h1, h2, rfl⟩ := Out.seq_ok' h
    rcases (H l).1 a i h1 m (by omega) with e | e
    · simp only [e, Out.seq, drop_of_take]
      rcases (G a i (l.drop i)).1 b j h2 (m - i) (by omega) with e2 | e2
      · left; rw [e2]; rfl
      · right; rw [e2]; rfl
    · right; simp only [e]; rfl
  · intro d c h
    rcases Out.seq_bad h with h1 | ⟨a, i, j, h1, h2, rfl⟩
    · obtain ⟨h2, h3, e⟩ := (H l).2 d c h1
      exact ⟨h2, h3, by simp only [e]; rfl⟩
    · obtain ⟨h3, h4, e2⟩ := (G a i (l.drop i)).2 j c h2
      rw [List.length_drop] at h3
      refine ⟨by omega, h4, ?_⟩
      rcases (H l).1 a i h1 (j + i) (by omega) with e | e
      · simp only [e, Out.seq, drop_of_take]
        rw [show j + i - i = j by omega, e2]; rfl
      · simp only [e]; rfl
theorem tk_loop {stop : List UInt8 → Bool} {step : Nat → List UInt8 → Out α} (G : Good stop step) (S1 : ∀ l, stop l = false → ∀ m, stop (l.take m) = false)
    (S2 : ∀ l, stop l = true → ∀ m k, stop (l.take m) = true ∨ step k (l.take m) = .un) (H : ∀ k, Tk (step k)) : ∀ k, Tk (loop stop step k) := by
  have main : ∀ (n : Nat) (l : List UInt8), l.length = n → ∀ k, TkO (loop stop step k) l ∧ TkB (loop stop step k) l := by
    intro n
    induction n using Nat.strongRecOn with
    | ind n ih =>
      intro l hn k
      by_cases hs : stop l = true
      · constructor
        · intro a i h m hm
          rw [loop_stop k hs] at h
          cases h
          by_cases ht : stop (l.take m) = true
          · left; exact loop_stop k ht
          · right
            rcases S2 l hs m k with h1 | h1
            · exact absurd h1 ht
            · exact loop_un (by simpa using ht) h1
        · intro d c h
          rw [loop_stop k hs] at h
          cases h
      · have hf : stop l = false := by simpa using hs
        cases hq : step k l with
        | ok a j =>
          have hg := G k l a j hf hq
          obtain ⟨I1, I2⟩ := ih _ (by rw [List.length_drop]; omega) (l.drop j) rfl (k + j)
          constructor
          · intro zs i h m hm
            rw [loop_ok G hf hq] at h
            obtain ⟨cs, i', h1, rfl, rfl⟩ := Out.pres_ok h
            rcases (H k l).1 a j hq m (by omega) with e | e
            · rw [loop_ok G (S1 l hf m) e, drop_of_take]
              rcases I1 cs i' h1 (m - j) (by omega) with e2 | e2
              · left; rw [e2]; rfl
              · right; rw [e2]; rfl
            · right; exact loop_un (S1 l hf m) e
          · intro d c h
            rw [loop_ok G hf hq] at h
            obtain ⟨d', h1, rfl⟩ := Out.pres_bad h
            obtain ⟨h2, h3, e2⟩ := I2 d' c h1
            rw [List.length_drop] at h2
            refine ⟨by omega, h3, ?_⟩
            rcases (H k l).1 a j hq (d' + j) (by omega) with e | e
            · rw [loop_ok G (S1 l hf _) e, drop_of_take, show d' + j - j = d' by omega, e2]; rfl
            · exact loop_un (S1 l hf _) e
        | bad d c =>
          constructor
          · intro zs i h; rw [loop_bad hf hq] at h; cases h
          · intro d' c' h
            rw [loop_bad hf hq] at h
            cases h
            obtain ⟨h1, h2, e⟩ := (H k l).2 d c hq
            exact ⟨h1, h2, loop_un (S1 l hf _) e⟩
        | un =>
          constructor
          · intro zs i h; rw [loop_un hf hq] at h; cases h
          · intro d' c' h; rw [loop_un hf hq] at h; cases h
  exact fun k l => main _ l rfl k
end

theorem tk_name : Tk nameO := by
  intro l
  constructor
  · intro a n h m hm
    left
    unfold nameO at h ⊢
    by_cases h0 : nm l = 0
    · rw [if_pos h0] at h; exact absurd h wrongO_ok
    · rw [if_neg h0] at h
      cases h
      rw [nm_take hm, if_neg h0, List.take_take, Nat.min_eq_left hm]
  · intro d c h
    unfold nameO at h
    by_cases h0 : nm l = 0
    · rw [if_pos h0] at h
      obtain ⟨rfl, rfl, h1⟩ := wrongO_bad h
      exact ⟨h1, .inl rfl, by rw [List.take_zero]; rfl⟩
    · rw [if_neg h0] at h; cases h
theorem mustO_nil {c : Nat} (hc : c ≠ 0) : mustO c [] = .un := by
  unfold mustO
  rw [if_neg (by simp [hd]; omega)]
  rfl
theorem tk_must {c : Nat} (hc : c ≠ 0) : Tk (mustO c) := by
  intro l
  constructor
  · intro a n h m hm
    obtain ⟨rfl, h1, h2⟩ := mustO_le hc h
    left
    unfold mustO at h ⊢
    rw [if_pos (by rw [hd_take hm]; exact h2)]
  · intro d c' h
    unfold mustO at h
    by_cases h0 : hd l = c
    · rw [if_pos h0] at h; cases h
    · rw [if_neg h0] at h
      obtain ⟨rfl, rfl, h1⟩ := wrongO_bad h
      exact ⟨h1, .inl rfl, by rw [List.take_zero]; exact mustO_nil hc⟩
theorem tk_sp : Tk spO := by
  intro l
  constructor
  · intro a n h m hm
    cases h
    left
    unfold spO
    rw [wh_take hm]
  · intro d c h; cases h
theorem refO_take {l : List UInt8} {a : List UInt8} {n m : Nat} (h : refO l = .ok a n) (hm : n ≤ m) : refO (l.take m) = .ok a n := by
  unfold refO at h ⊢
  by_cases hc : 0 ≤ Lib.index l [59] ∧ mean (l.take (Lib.index l [59]).toNat) ≠ []
  · rw [if_pos hc] at h
    cases h
    have e := index_take (l := l) (p := [59]) (m := m) hc.1 (by simpa using hm)
    rw [e, List.take_take, Nat.min_eq_left (by omega), if_pos hc]
  · rw [if_neg hc] at h; cases h
theorem pieceO_take {l : List UInt8} {a : List UInt8} {n m : Nat} (hl : l ≠ []) (h : pieceO l = .ok a n) (hm : n ≤ m) : pieceO (l.take m) = .ok a n := by
  have hp := pieceO_le hl h
  unfold pieceO at h ⊢
  rw [hd_take (by omega)]
  by_cases h1 : hd l = 38
  · rw [if_pos h1] at h ⊢; exact refO_take h hm
  · rw [if_neg h1] at h ⊢
    by_cases h2 : hd l = 13
    · rw [if_pos h2] at h ⊢
      rw [drop_of_take]
      by_cases h3 : hd (l.drop 1) = 10
      · rw [if_pos h3] at h; cases h
        rw [hd_take (by omega), if_pos h3]
      · rw [if_neg h3] at h; cases h
        rw [if_neg]
        intro h4
        rcases hd_or (l.drop 1) (m - 1) with e | e
        · exact h3 (e ▸ h4)
        · rw [e] at h4; exact absurd h4 (by decide)
    · rw [if_neg h2] at h ⊢
      cases h
      rw [List.take_take, Nat.min_eq_left (by omega)]
theorem pieceO_bad {l : List UInt8} {d : Nat} {c : Int} (h : pieceO l = .bad d c) : d = 0 ∧ c = 83 ∧ hd l = 38 := by
  unfold pieceO at h
  by_cases h1 : hd l = 38
  · rw [if_pos h1] at h
    unfold refO at h
    split at h <;> cases h
    exact ⟨rfl, rfl, h1⟩
  · rw [if_neg h1] at h
    split at h <;> cases h
theorem stepV_nil : stepV [] = .un := rfl
theorem stepV_bad {l : List UInt8} {d : Nat} {c : Int} (h : stepV l = .bad d c) : d = 0 ∧ (c = 82 ∨ c = 83) ∧ 0 < l.length ∧ hd l < 128 := by
  unfold stepV at h
  by_cases h1 : hd l = 60 ∨ hd l = 0
  · rw [if_pos h1] at h
    obtain ⟨rfl, rfl, h2⟩ := wrongO_bad h
    exact ⟨rfl, .inl rfl, h2, by omega⟩
  · rw [if_neg h1] at h
    have h2 : pieceO l = .bad d c := by
      split at h
      · exact Out.map_bad h
      · exact h
    obtain ⟨rfl, rfl, h3⟩ := pieceO_bad h2
    exact ⟨rfl, .inr rfl, hd_ne (by omega), by omega⟩
theorem tk_stepV : Tk stepV := by
  intro l
  constructor
  · intro a n h m hm
    left
    have hp := stepV_le h
    have hl : l ≠ [] := by rintro rfl; rw [stepV_nil] at h; cases h
    unfold stepV at h ⊢
    rw [hd_take (by omega)]
    by_cases h1 : hd l = 60 ∨ hd l = 0
    · rw [if_pos h1] at h; exact absurd h wrongO_ok
    · rw [if_neg h1] at h ⊢
      by_cases h2 : isW (hd l) = true
      · rw [if_pos h2] at h ⊢
        obtain ⟨b, h3, rfl⟩ := Out.map_ok h
        rw [pieceO_take hl h3 hm]; rfl
      · rw [if_neg h2] at h ⊢
        exact pieceO_take hl h hm
  · intro d c h
    obtain ⟨rfl, h1, h2, h3⟩ := stepV_bad h
    exact ⟨h2, h1, by rw [List.take_zero]; rfl⟩
theorem stopV_take {q : Nat} (hq : q ≠ 0) (l : List UInt8) (h : stopV q l = false) (m : Nat) : stopV q (l.take m) = false := by
  unfold stopV at h ⊢
  rcases hd_or l m with e | e
  · rw [e]; exact h
  · rw [e]; simp; omega
theorem stopV_un {q : Nat} (l : List UInt8) (h : stopV q l = true) (m : Nat) : stopV q (l.take m) = true ∨ stepV (l.take m) = .un := by
  cases m with
  | zero => right; rw [List.take_zero]; rfl
  | succ m => left; unfold stopV at h ⊢; rw [hd_take (by omega)]; exact h
theorem tk_loopV {q : Nat} (hq : q ≠ 0) (k : Nat) : Tk (loop (stopV q) (fun _ => stepV) k) :=
  tk_loop (goodV q) (stopV_take hq) (fun l h m _ => stopV_un l h m) (fun _ => tk_stepV) k
theorem tk_value : Tk valueO := by
  intro l
  constructor
  · intro a n h m hm
    have hp := valueO_le h
    unfold valueO at h ⊢
    rw [hd_take (by omega)]
    by_cases h1 : hd l ≠ 34 ∧ hd l ≠ 39
    · rw [if_pos h1] at h; exact absurd h wrongO_ok
    · rw [if_neg h1] at h ⊢
      obtain ⟨j, h2, rfl⟩ := Out.on_ok h
      obtain ⟨i, h3, rfl⟩ := Out.more_ok h2
      obtain ⟨zs, h4, rfl⟩ := Out.map_ok h3
      rw [drop_of_take]
      rcases (tk_loopV (by omega) 0 (l.drop 1)).1 zs i h4 (m - 1) (by omega) with e | e
      · left; rw [e]; rfl
      · right; rw [e]; rfl
  · intro d c h
    unfold valueO at h ⊢
    by_cases h1 : hd l ≠ 34 ∧ hd l ≠ 39
    · rw [if_pos h1] at h
      obtain ⟨rfl, rfl, h2⟩ := wrongO_bad h
      exact ⟨h2, .inl rfl, by rw [List.take_zero]; rfl⟩
    · rw [if_neg h1] at h
      obtain ⟨j, h2, rfl⟩ := Out.on_bad h
      have h3 := Out.map_bad (Out.more_bad h2)
      obtain ⟨h4, h5, e⟩ := (tk_loopV (by omega) 0 (l.drop 1)).2 j c h3
      rw [List.length_drop] at h4
      refine ⟨by omega, h5, ?_⟩
      rw [hd_take (by omega), if_neg h1, drop_of_take, show j + 1 - 1 = j by omega, e]; rfl
theorem tk_attr (k : Nat) : Tk (attrO k) :=
  tk_name.seq fun _ _ => tk_sp.seq fun _ _ => (tk_must (by decide)).seq fun _ _ => tk_sp.seq fun _ _ => tk_value.map _
theorem tk_stepA (k : Nat) : Tk (stepA k) := by
  intro l
  constructor
  · intro a n h m hm
    unfold stepA at h ⊢
    by_cases h0 : wh l = 0
    · rw [if_pos h0] at h; exact absurd h wrongO_ok
    · rw [if_neg h0] at h
      obtain ⟨j, h1, rfl⟩ := Out.on_ok h
      rw [wh_take (by omega), if_neg h0, drop_of_take]
      rcases (tk_attr _ (l.drop (wh l))).1 a j h1 (m - wh l) (by omega) with e | e
      · left; rw [e]; rfl
      · right; rw [e]; rfl
  · intro d c h
    unfold stepA at h ⊢
    by_cases h0 : wh l = 0
    · rw [if_pos h0] at h
      obtain ⟨rfl, rfl, h2⟩ := wrongO_bad h
      exact ⟨h2, .inl rfl, by rw [List.take_zero]; rfl⟩
    · rw [if_neg h0] at h
      obtain ⟨j, h1, rfl⟩ := Out.on_bad h
      obtain ⟨h4, h5, e⟩ := (tk_attr _ (l.drop (wh l))).2 j c h1
      rw [List.length_drop] at h4
      refine ⟨by omega, h5, ?_⟩
      rw [wh_take (by omega), if_neg h0, drop_of_take, show j + wh l - wh l = j by omega, e]; rfl
theorem behind_white {l : List UInt8} {m : Nat} : hd ((l.take m).drop (wh (l.take m))) = hd (l.drop (wh l)) ∨ (hd ((l.take m).drop (wh (l.take m))) = 0 ∧ (l.take m).drop (wh (l.take m)) = []) := by
  by_cases h : wh l < m
  · left
    rw [wh_take (by omega), drop_of_take, hd_take (by omega)]
  · right
    have : (l.take m).drop (wh (l.take m)) = [] := by
      apply List.drop_eq_nil_of_le
      rw [wh_min, List.length_take]
      have := wh_le l
      omega
    rw [this]
    exact ⟨rfl, rfl⟩
theorem stopA_take (l : List UInt8) (h : stopA l = false) (m : Nat) : stopA (l.take m) = false := by
  unfold stopA at h ⊢
  rcases behind_white (l := l) (m := m) with e | ⟨e, _⟩
  · rw [e]; exact h
  · rw [e]; rfl
theorem attrO_nil (k : Nat) : attrO k [] = .un := rfl
theorem stopA_un (l : List UInt8) (h : stopA l = true) (m k : Nat) : stopA (l.take m) = true ∨ stepA k (l.take m) = .un := by
  rcases behind_white (l := l) (m := m) with e | ⟨_, e⟩
  · left; unfold stopA at h ⊢; rw [e]; exact h
  · right
    unfold stepA
    by_cases h0 : wh (l.take m) = 0
    · rw [if_pos h0]
      rw [h0] at e
      rw [show l.take m = [] from e, wrongO_nil]
    · rw [if_neg h0, e, attrO_nil]; rfl
theorem tk_loopA (k : Nat) : Tk (loop stopA stepA k) := tk_loop goodA stopA_take stopA_un tk_stepA k
theorem tk_empty : Tk (fun l1 : List UInt8 => if hd l1 = 47 then (Out.ok true 1).seq l1 (fun e _ l2 => (mustO 62 l2).map fun _ => e) else (mustO 62 l1).map fun _ => false) := by
  intro l
  have hk : ∀ e : Bool, Tk (fun l2 => (mustO 62 l2).map fun _ => e) := fun e => (tk_must (by decide)).map _
  by_cases h0 : hd l = 47
  · constructor
    · intro a n h m hm
      simp only [if_pos h0] at h
      obtain ⟨b, i, j, h1, h2, rfl⟩ := Out.seq_ok' h
      cases h1
      simp only [hd_take (show 1 ≤ m by omega), if_pos h0, Out.seq, drop_of_take]
      rcases (hk true (l.drop 1)).1 a j h2 (m - 1) (by omega) with e | e
      · left; simp only at e; rw [e]; rfl
      · right; simp only at e; rw [e]; rfl
    · intro d c h
      simp only [if_pos h0] at h
      rcases Out.seq_bad h with h1 | ⟨b, i, j, h1, h2, rfl⟩
      · cases h1
      · cases h1
        obtain ⟨h4, h5, e⟩ := (hk true (l.drop 1)).2 j c h2
        rw [List.length_drop] at h4
        refine ⟨by omega, h5, ?_⟩
        simp only [hd_take (show 1 ≤ j + 1 by omega), if_pos h0, Out.seq, drop_of_take]
        simp only at e
        rw [show j + 1 - 1 = j by omega, e]; rfl
  · constructor
    · intro a n h m hm
      simp only [if_neg h0] at h
      have h1 : hd (l.take m) ≠ 47 := by rcases hd_or l m with e | e <;> (rw [e]; first | exact h0 | decide)
      simp only [if_neg h1]
      exact (hk false l).1 a n h m hm
    · intro d c h
      simp only [if_neg h0] at h
      have h1 : hd (l.take d) ≠ 47 := by rcases hd_or l d with e | e <;> (rw [e]; first | exact h0 | decide)
      simp only [if_neg h1]
      exact (hk false l).2 d c h
theorem tk_tail : Tk tailO := tk_sp.seq fun _ _ => tk_empty
theorem tk_start (f k : Nat) : Tk (startO f k) := tk_name.seq fun _ n => (tk_loopA (k + n)).seq fun _ _ => tk_tail.map _
theorem tk_end (f : Nat) : Tk (endO f) := tk_name.seq fun _ _ => tk_sp.seq fun _ _ => (tk_must (by decide)).map _
theorem tk_up (p : List UInt8) : Tk (upO p) := by
  intro l
  constructor
  · intro a n h m hm
    left
    unfold upO at h ⊢
    by_cases h0 : 0 ≤ Lib.index l p
    · rw [if_pos h0] at h
      cases h
      rw [index_take h0 hm, if_pos h0, List.take_take, Nat.min_eq_left (by omega)]
    · rw [if_neg h0] at h; cases h
  · intro d c h
    unfold upO at h
    split at h <;> cases h
theorem tk_cdata (f : Nat) : Tk (cdataO f) := (tk_up _).map _
end Go.Proofs.YtbokcihlbpeagaaDoor
