/-
  What is proved: plain mathematics of markup: a whole document that is cut off where a fault is. Conditions: those in each statement.
-/
import Derived.Test.YtbokcihlbpeagaaDoorFk
namespace Go.Proofs.YtbokcihlbpeagaaDoor

theorem stopT_false {l : List UInt8} (h : stopT l = false) : l ≠ [] ∧ hd l ≠ 60 := by
  constructor
  · rintro rfl; exact absurd h (by decide)
  · intro e; unfold stopT at h; rw [e] at h; simp at h
theorem stopT_of {l : List UInt8} (h1 : l ≠ []) (h2 : hd l ≠ 60) : stopT l = false := by
  unfold stopT
  cases l with
  | nil => exact absurd rfl h1
  | cons b t => simpa using h2
theorem take_ne {l : List UInt8} {m : Nat} (h : l ≠ []) (hm : 1 ≤ m) : l.take m ≠ [] := by
  have := List.length_pos_iff.2 h
  apply List.length_pos_iff.1
  rw [List.length_take]
  omega
theorem loopT_take : ∀ (n : Nat) (l : List UInt8), l.length = n → ∀ (k : Nat) (zs : List (List UInt8)) (i : Nat), loop stopT (fun _ => pieceO) k l = .ok zs i →
    ∀ m, i ≤ m → loop stopT (fun _ => pieceO) k (l.take m) = .ok zs i := by
  intro n
  induction n using Nat.strongRecOn with
  | ind n ih =>
    intro l hn k zs i h m hm
    by_cases hs : stopT l = true
    · rw [loop_stop k hs] at h
      cases h
      apply loop_stop
      cases m with
      | zero => rfl
      | succ m =>
        unfold stopT at hs ⊢
        rw [hd_take (by omega)]
        simp only [Bool.or_eq_true] at hs ⊢
        rcases hs with h1 | h1
        · left
          rw [List.isEmpty_iff] at h1
          rw [h1]; rfl
        · exact .inr h1
    · have hf : stopT l = false := by simpa using hs
      obtain ⟨h1, h2⟩ := stopT_false hf
      cases hq : pieceO l with
      | ok a j =>
        have hg := pieceO_le h1 hq
        rw [loop_ok goodT hf hq] at h
        obtain ⟨cs, i', h3, rfl, rfl⟩ := Out.pres_ok h
        rw [loop_ok goodT (stopT_of (take_ne h1 (by omega)) (by rw [hd_take (by omega)]; exact h2)) (pieceO_take h1 hq (by omega)), drop_of_take,
          ih _ (by rw [List.length_drop]; omega) (l.drop j) rfl _ cs i' h3 (m - j) (by omega)]
        rfl
      | bad d c => rw [loop_bad hf hq] at h; cases h
      | un => rw [loop_un hf hq] at h; cases h
theorem loopT_bad : ∀ (n : Nat) (l : List UInt8), l.length = n → ∀ (k d : Nat) (c : Int), loop stopT (fun _ => pieceO) k l = .bad d c →
    d < l.length ∧ c = 83 ∧ hd (l.drop d) = 38 ∧ ∃ zs, loop stopT (fun _ => pieceO) k (l.take d) = .ok zs d := by
  intro n
  induction n using Nat.strongRecOn with
  | ind n ih =>
    intro l hn k d c h
    by_cases hs : stopT l = true
    · rw [loop_stop k hs] at h; cases h
    · have hf : stopT l = false := by simpa using hs
      obtain ⟨h1, h2⟩ := stopT_false hf
      cases hq : pieceO l with
      | ok a j =>
        have hg := pieceO_le h1 hq
        rw [loop_ok goodT hf hq] at h
        obtain ⟨d', h3, rfl⟩ := Out.pres_bad h
        obtain ⟨h4, h5, h6, zs, h7⟩ := ih _ (by rw [List.length_drop]; omega) (l.drop j) rfl _ d' c h3
        rw [List.length_drop] at h4
        refine ⟨by omega, h5, ?_, [a] ++ zs, ?_⟩
        · rw [List.drop_drop] at h6
          rw [Nat.add_comm]; exact h6
        · rw [loop_ok goodT (stopT_of (take_ne h1 (by omega)) (by rw [hd_take (by omega)]; exact h2)) (pieceO_take h1 hq (by omega)), drop_of_take,
            show d' + j - j = d' by omega, h7]
          rfl
      | bad d' c' =>
        rw [loop_bad hf hq] at h
        cases h
        obtain ⟨rfl, rfl, h3⟩ := pieceO_bad hq
        exact ⟨List.length_pos_iff.2 h1, rfl, h3, [], loop_stop k rfl⟩
      | un => rw [loop_un hf hq] at h; cases h
theorem textO_take {l a : List UInt8} {n m : Nat} (h : textO l = .ok a n) (hm : n ≤ m) : textO (l.take m) = .ok a n := by
  unfold textO at h ⊢
  obtain ⟨zs, h1, rfl⟩ := Out.map_ok h
  rw [loopT_take _ l rfl 0 zs n h1 m hm]; rfl
theorem textO_bad {l : List UInt8} {d : Nat} {c : Int} (h : textO l = .bad d c) : d < l.length ∧ c = 83 ∧ hd (l.drop d) = 38 ∧ ∃ t, textO (l.take d) = .ok t d := by
  unfold textO at h ⊢
  obtain ⟨h1, h2, h3, zs, h4⟩ := loopT_bad _ l rfl 0 d c (Out.map_bad h)
  exact ⟨h1, h2, h3, zs.flatten, by rw [h4]; rfl⟩
theorem no_take {l p : List UInt8} {m : Nat} (h : ¬ Lib.hasPrefix l p = true) : ¬ Lib.hasPrefix (l.take m) p = true := fun h1 => h (prefix_of_take h1)

/-- one mark of a document that is cut off behind it -/
theorem stepD_take {k : Nat} {l : List UInt8} {a : Option Mk} {j m : Nat} (h : stepD k l = .ok a j) (hm : j ≤ m) : stepD k (l.take m) = .ok a j ∨ stepD k (l.take m) = .un := by
  unfold stepD at h ⊢
  by_cases h1 : Lib.hasPrefix l [60, 33, 45, 45] = true
  · rw [if_pos h1] at h
    obtain ⟨i, h5, rfl⟩ := Out.on_ok h
    rw [if_pos (prefix_take h1 (by simp only [List.length_cons, List.length_nil]; omega)), drop_of_take]
    rcases ((tk_up [45, 45, 62]).map (fun _ => (none : Option Mk)) (l.drop 4)).1 a i h5 (m - 4) (by omega) with e | e
    · left; simp only at e; rw [e]; rfl
    · right; simp only at e; rw [e]; rfl
  · rw [if_neg h1] at h; rw [if_neg (no_take h1)]
    by_cases h2 : Lib.hasPrefix l [60, 33, 91, 67, 68, 65, 84, 65, 91] = true
    · rw [if_pos h2] at h
      obtain ⟨i, h5, rfl⟩ := Out.on_ok h
      rw [if_pos (prefix_take h2 (by simp only [List.length_cons, List.length_nil]; omega)), drop_of_take]
      rcases (tk_cdata k (l.drop 9)).1 a i h5 (m - 9) (by omega) with e | e
      · left; rw [e]; rfl
      · right; rw [e]; rfl
    · rw [if_neg h2] at h; rw [if_neg (no_take h2)]
      by_cases h3 : Lib.hasPrefix l [60, 47] = true
      · rw [if_pos h3] at h
        obtain ⟨i, h5, rfl⟩ := Out.on_ok h
        rw [if_pos (prefix_take h3 (by simp only [List.length_cons, List.length_nil]; omega)), drop_of_take]
        rcases ((tk_end k).map some (l.drop 2)).1 a i h5 (m - 2) (by omega) with e | e
        · left; simp only at e; rw [e]; rfl
        · right; simp only at e; rw [e]; rfl
      · rw [if_neg h3] at h; rw [if_neg (no_take h3)]
        by_cases h4 : Lib.hasPrefix l [60] = true
        · rw [if_pos h4] at h
          obtain ⟨i, h5, rfl⟩ := Out.on_ok h
          rw [if_pos (prefix_take h4 (by simp only [List.length_cons, List.length_nil]; omega)), drop_of_take]
          rcases ((tk_start k (k + 1)).map some (l.drop 1)).1 a i h5 (m - 1) (by omega) with e | e
          · left; simp only at e; rw [e]; rfl
          · right; simp only at e; rw [e]; rfl
        · rw [if_neg h4] at h; rw [if_neg (no_take h4)]
          obtain ⟨t, h5, rfl⟩ := Out.map_ok h
          left
          rw [textO_take h5 hm]; rfl
/-- one mark in which a fault is -/
theorem stepD_bad {k : Nat} {l : List UInt8} {d : Nat} {c : Int} (h : stepD k l = .bad d c) :
    d < l.length ∧ (c = 82 ∨ c = 83) ∧ ((0 < d ∧ stepD k (l.take d) = .un) ∨ d = 0 ∨ ∃ t, stepD k (l.take d) = .ok t d) := by
  unfold stepD at h ⊢
  by_cases h1 : Lib.hasPrefix l [60, 33, 45, 45] = true
  · rw [if_pos h1] at h
    obtain ⟨i, h5, rfl⟩ := Out.on_bad h
    have h6 := Out.map_bad h5
    unfold upO at h6
    split at h6 <;> cases h6
  · rw [if_neg h1] at h; rw [if_neg (no_take h1)]
    by_cases h2 : Lib.hasPrefix l [60, 33, 91, 67, 68, 65, 84, 65, 91] = true
    · rw [if_pos h2] at h
      obtain ⟨i, h5, rfl⟩ := Out.on_bad h
      have h6 := Out.map_bad h5
      unfold upO at h6
      split at h6 <;> cases h6
    · rw [if_neg h2] at h; rw [if_neg (no_take h2)]
      by_cases h3 : Lib.hasPrefix l [60, 47] = true
      · rw [if_pos h3] at h
        obtain ⟨i, h5, rfl⟩ := Out.on_bad h
        obtain ⟨h6, h7, e⟩ := ((tk_end k).map some (l.drop 2)).2 i c h5
        rw [List.length_drop] at h6
        refine ⟨by omega, h7, .inl ⟨by omega, ?_⟩⟩
        rw [if_pos (prefix_take h3 (by simp only [List.length_cons, List.length_nil]; omega)), drop_of_take, show i + 2 - 2 = i by omega]
        simp only at e; rw [e]; rfl
      · rw [if_neg h3] at h; rw [if_neg (no_take h3)]
        by_cases h4 : Lib.hasPrefix l [60] = true
        · rw [if_pos h4] at h
          obtain ⟨i, h5, rfl⟩ := Out.on_bad h
          obtain ⟨h6, h7, e⟩ := ((tk_start k (k + 1)).map some (l.drop 1)).2 i c h5
          rw [List.length_drop] at h6
          refine ⟨by omega, h7, .inl ⟨by omega, ?_⟩⟩
          rw [if_pos (prefix_take h4 (by simp only [List.length_cons, List.length_nil]; omega)), drop_of_take, show i + 1 - 1 = i by omega]
          simp only at e; rw [e]; rfl
        · rw [if_neg h4] at h; rw [if_neg (no_take h4)]
          obtain ⟨h5, h6, h7, t, h8⟩ := textO_bad (Out.map_bad h)
          exact ⟨h5, .inr h6, .inr (.inr ⟨some ⟨3, [], [], false, t, k⟩, by rw [h8]; rfl⟩)⟩
theorem docO_nil (k : Nat) : docO k [] = .ok [] 0 := by unfold docO; exact loop_stop k rfl
theorem empty_of {l : List UInt8} (h : l ≠ []) : (fun l : List UInt8 => l.isEmpty) l = false := by
  cases l with
  | nil => exact absurd rfl h
  | cons b t => rfl
theorem doc_bad : ∀ (n : Nat) (l : List UInt8), l.length = n → ∀ (k d : Nat) (c : Int), docO k l = .bad d c →
    d < l.length ∧ (c = 84 ∨ ((c = 82 ∨ c = 83) ∧ ((∃ a i, docO k (l.take d) = .ok a i) ∨ ∃ y, docO k (l.take d) = .bad y 84))) := by
  intro n
  induction n using Nat.strongRecOn with
  | ind n ih =>
    intro l hn k d c h
    by_cases hl : l = []
    · rw [hl, docO_nil] at h; cases h
    · have hp := List.length_pos_iff.2 hl
      cases hq : stepD k l with
      | ok a j =>
        have hg := stepD_le hl hq
        have h1 : docO k l = (docO (k + j) (l.drop j)).pres [a] j := loop_ok goodD (empty_of hl) (by rw [hq]; rfl)
        rw [h1] at h
        obtain ⟨d', h2, rfl⟩ := Out.pres_bad h
        obtain ⟨h3, h4⟩ := ih _ (by rw [List.length_drop]; omega) (l.drop j) rfl _ d' c h2
        rw [List.length_drop] at h3
        refine ⟨by omega, ?_⟩
        rcases h4 with h4 | ⟨h4, h5⟩
        · exact .inl h4
        · refine .inr ⟨h4, ?_⟩
          have hl2 : l.take (d' + j) ≠ [] := take_ne hl (by omega)
          rcases stepD_take hq (m := d' + j) (by omega) with e | e
          · have h6 : docO k (l.take (d' + j)) = (docO (k + j) ((l.take (d' + j)).drop j)).pres [a] j := loop_ok goodD (empty_of hl2) (by rw [e]; rfl)
            rw [h6, drop_of_take, show d' + j - j = d' by omega]
            rcases h5 with ⟨b, i, e2⟩ | ⟨y, e2⟩
            · left; rw [e2]; exact ⟨_, _, rfl⟩
            · right; rw [e2]; exact ⟨_, rfl⟩
          · right
            exact ⟨0, loop_bad (empty_of hl2) (by rw [e]; rfl)⟩
      | bad d' c' =>
        have h1 : docO k l = .bad d' c' := loop_bad (empty_of hl) (by rw [hq]; rfl)
        rw [h1] at h
        cases h
        obtain ⟨h2, h3, h4⟩ := stepD_bad hq
        refine ⟨h2, .inr ⟨h3, ?_⟩⟩
        rcases h4 with ⟨h5, e⟩ | rfl | ⟨t, e⟩
        · right
          exact ⟨0, loop_bad (empty_of (take_ne hl h5)) (by rw [e]; rfl)⟩
        · left; rw [List.take_zero, docO_nil]; exact ⟨_, _, rfl⟩
        · left
          by_cases h0 : d = 0
          · rw [h0, List.take_zero, docO_nil]; exact ⟨_, _, rfl⟩
          · have h6 : docO k (l.take d) = (docO (k + d) ((l.take d).drop d)).pres [t] d := loop_ok goodD (empty_of (take_ne hl (by omega))) (by rw [e]; rfl)
            rw [h6, drop_of_take, Nat.sub_self, List.take_zero, docO_nil]
            exact ⟨_, _, rfl⟩
      | un =>
        have h1 : docO k l = .bad 0 84 := loop_bad (empty_of hl) (by rw [hq]; rfl)
        rw [h1] at h
        cases h
        exact ⟨hp, .inl rfl⟩
/-- a declaration's end lies behind its beginning -/
theorem decl_far {l : List UInt8} (hb : declB l = true) (h : 0 ≤ Lib.index l [63, 62]) : 6 ≤ (Lib.index l [63, 62]).toNat := by
  unfold declB at hb
  rw [Bool.and_eq_true] at hb
  obtain ⟨t, rfl⟩ := prefix_iff.1 hb.1
  rcases Lib.index_spec ([60, 63, 120, 109, 108] ++ t) [63, 62] with ⟨h1, _⟩ | ⟨i, h1, h2, h3, h4⟩
  · omega
  · rw [h1]
    simp only [Int.toNat_natCast]
    have hw : isW (hd t) = true := hb.2
    cases t with
    | nil => exact absurd hw (by decide)
    | cons b t =>
      have hb3 : b ≠ 63 := by
        rintro rfl
        rw [show hd (63 :: t) = 63 from rfl] at hw
        exact absurd hw (by decide)
      rcases Nat.lt_or_ge i 6 with h5 | h5
      · have : i = 0 ∨ i = 1 ∨ i = 2 ∨ i = 3 ∨ i = 4 ∨ i = 5 := by omega
        rcases this with rfl | rfl | rfl | rfl | rfl | rfl <;> simp [Lib.occAt] at h3
        exact absurd h3.1.symm hb3
      · exact h5
theorem declB_take {l : List UInt8} {m : Nat} (h : declB (l.take m) = true) : declB l = true := by
  unfold declB at h ⊢
  rw [Bool.and_eq_true] at h ⊢
  refine ⟨prefix_of_take h.1, ?_⟩
  rw [drop_of_take] at h
  rcases hd_or (l.drop 5) (m - 5) with e | e
  · rw [← e]; exact h.2
  · rw [e] at h; exact absurd h.2 (by decide)
theorem declB_keep {l : List UInt8} {m : Nat} (h : declB l = true) (hm : 6 ≤ m) : declB (l.take m) = true := by
  unfold declB at h ⊢
  rw [Bool.and_eq_true] at h ⊢
  refine ⟨prefix_take h.1 (by simp only [List.length_cons, List.length_nil]; omega), ?_⟩
  rw [drop_of_take, hd_take (by omega)]
  exact h.2
theorem marks_cut {l : List UInt8} {d : Nat} {c : Int} (h : marksO l = .bad d c) :
    d < l.length ∧ (c = 84 ∨ ((c = 82 ∨ c = 83) ∧ ((∃ a i, marksO (l.take d) = .ok a i) ∨ ∃ y, marksO (l.take d) = .bad y 84))) := by
  unfold marksO at h ⊢
  rcases Out.seq_bad h with h1 | ⟨u, n, j, h1, h2, rfl⟩
  · rcases Out.fin_bad h1 with h2 | ⟨h2, rfl, rfl⟩
    · unfold declO at h2
      split at h2
      · have := Out.map_bad h2
        unfold upO at this
        split at this <;> cases this
      · cases h2
    · refine ⟨?_, .inl rfl⟩
      unfold declO at h2
      split at h2
      · rename_i hb
        unfold declB at hb
        rw [Bool.and_eq_true] at hb
        have := prefix_len hb.1
        simp at this
        omega
      · cases h2
  · have h3 := Out.fin_ok h1
    obtain ⟨h4, h5⟩ := doc_bad _ (l.drop n) rfl _ j c (Out.map_bad h2)
    rw [List.length_drop] at h4
    refine ⟨by omega, ?_⟩
    rcases h5 with h5 | ⟨h5, h6⟩
    · exact .inl h5
    · refine .inr ⟨h5, ?_⟩
      have h7 : declO (l.take (j + n)) = .ok u n := by
        unfold declO at h3 ⊢
        by_cases hb : declB l = true
        · rw [if_pos hb] at h3
          obtain ⟨t, h8, _⟩ := Out.map_ok h3
          have h8' := h8
          unfold upO at h8'
          split at h8'
          · rename_i h0
            cases h8'
            have := decl_far hb h0
            rw [if_pos (declB_keep hb (by simp only [List.length_cons, List.length_nil]; omega))]
            have e : ∀ m, (Lib.index l [63, 62]).toNat + 2 ≤ m → upO [63, 62] (l.take m) = .ok (l.take (Lib.index l [63, 62]).toNat) ((Lib.index l [63, 62]).toNat + 2) := by
              intro m hm
              have e2 := index_take (l := l) (p := [63, 62]) (m := m) h0 hm
              unfold upO
              rw [e2, if_pos h0, List.take_take, Nat.min_eq_left (by omega)]
              rfl
            rw [e _ (by simp only [List.length_cons, List.length_nil]; omega)]
            rfl
          · cases h8'
        · rw [if_neg hb] at h3
          rw [if_neg (fun hb2 => hb (declB_take hb2))]
          exact h3
      rw [h7]
      simp only [Out.fin, Out.seq, drop_of_take]
      rw [show j + n - n = j by omega]
      rcases h6 with ⟨b, i, e2⟩ | ⟨y, e2⟩
      · left; rw [e2]; exact ⟨_, _, rfl⟩
      · right; rw [e2]; exact ⟨_, rfl⟩
end Go.Proofs.YtbokcihlbpeagaaDoor
