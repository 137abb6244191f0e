/-
  What is proved: plain mathematics of markup: a fault stands where a character begins; what MarkupFaults asks of every document. Conditions: those in each statement.
-/
import Derived.Test.YtbokcihlbpeagaaDoorFl
import Derived.Test.YtbokcihlbpeagaaDoorRx
namespace Go.Proofs.YtbokcihlbpeagaaDoor

/-! ### read as characters up to a place -/
inductive Upto : List UInt8 → Nat → Prop
  | zero (l : List UInt8) : Upto l 0
  | step {l : List UInt8} {d : Nat} : isC (nx l).1 → Upto (l.drop (nx l).2) d → Upto l ((nx l).2 + d)
theorem Upto.le {l : List UInt8} {d : Nat} (h : Upto l d) : d ≤ l.length := by
  induction h with
  | zero l => omega
  | step hc _ ih => rw [List.length_drop] at ih; have := nx_c hc; omega
theorem Upto.one {l : List UInt8} (h : isC (nx l).1) : Upto l (nx l).2 := by
  have := Upto.step h (Upto.zero _)
  simpa using this
theorem Upto.trans {l : List UInt8} {d e : Nat} (h : Upto l d) (h2 : Upto (l.drop d) e) : Upto l (d + e) := by
  induction h with
  | zero l => simpa using h2
  | @step l d hc h ih =>
    rw [List.drop_drop] at ih
    have := Upto.step hc (ih h2)
    rwa [← Nat.add_assoc] at this
theorem Upto.inv {l : List UInt8} {e : Nat} (h : Upto l e) (h0 : e ≠ 0) : isC (nx l).1 ∧ (nx l).2 ≤ e ∧ Upto (l.drop (nx l).2) (e - (nx l).2) := by
  cases h with
  | zero => exact absurd rfl h0
  | step hc h => exact ⟨hc, Nat.le_add_right .., by rw [Nat.add_sub_cancel_left]; exact h⟩
theorem Upto.rest {l : List UInt8} {d e : Nat} (h : Upto l d) (h2 : Upto l e) (hd : d ≤ e) : Upto (l.drop d) (e - d) := by
  induction h generalizing e with
  | zero l => simpa using h2
  | @step l d hc h ih =>
    have hp := nx_c hc
    obtain ⟨_, h3, h4⟩ := h2.inv (by omega)
    have := ih h4 (by omega)
    rw [List.drop_drop] at this
    rwa [show e - ((nx l).2 + d) = e - (nx l).2 - d by omega]
theorem Upto.take {l : List UInt8} {d : Nat} (h : Upto l d) : Upto (l.take d) d := by
  induction h with
  | zero l => exact .zero _
  | @step l d hc h ih =>
    have hp := nx_c hc
    have e := nx_take' (l := l) (k := (nx l).2 + d) (by omega) (by omega)
    have := Upto.step (l := l.take ((nx l).2 + d)) (d := d) (by rw [e]; exact hc) (by rw [e, drop_of_take, show (nx l).2 + d - (nx l).2 = d by omega]; exact ih)
    rwa [e] at this
/-- a byte below 128 is a character by itself -/
theorem put_tail {r : Int} (h : isR r) {x : Nat} (hx : x < (put r).length) (hb : ((put r)[x]).toNat < 128) : x = 0 ∧ sz r = 1 := by
  have hr := h
  unfold isR at hr
  have hl := put_length r
  have hb2 : ∃ b, (put r)[x]? = some b ∧ b.toNat < 128 := ⟨_, List.getElem?_eq_getElem hx, hb⟩
  clear hb
  obtain ⟨b, he, hb⟩ := hb2
  rw [hl] at hx
  unfold put at he
  unfold sz at hx ⊢
  rw [if_pos h] at he hx ⊢
  by_cases h1 : r < 128
  · rw [if_pos h1] at hx ⊢; exact ⟨by omega, rfl⟩
  · exfalso
    rw [if_neg h1] at he hx
    have hby : ∀ z : Int, 128 ≤ z → z < 256 → b = byteOf z → False := by
      intro z h2 h3 h4
      have := byteOf_nat (x := z) (by omega) h3
      rw [← h4] at this
      omega
    by_cases h2 : r < 2048
    · rw [if_pos h2] at he hx
      have : x = 0 ∨ x = 1 := by omega
      rcases this with rfl | rfl <;> simp only [List.getElem?_cons_zero, List.getElem?_cons_succ, Option.some.injEq] at he <;> exact hby _ (by omega) (by omega) he.symm
    · rw [if_neg h2] at he hx
      by_cases h3 : r < 65536
      · rw [if_pos h3] at he hx
        have : x = 0 ∨ x = 1 ∨ x = 2 := by omega
        rcases this with rfl | rfl | rfl <;> simp only [List.getElem?_cons_zero, List.getElem?_cons_succ, Option.some.injEq] at he <;> exact hby _ (by omega) (by omega) he.symm
      · rw [if_neg h3] at he hx
        have : x = 0 ∨ x = 1 ∨ x = 2 ∨ x = 3 := by omega
        rcases this with rfl | rfl | rfl | rfl <;> simp only [List.getElem?_cons_zero, List.getElem?_cons_succ, Option.some.injEq] at he <;> exact hby _ (by omega) (by omega) he.symm
theorem hd_at {l : List UInt8} {x : Nat} (h : x < l.length) : hd (l.drop x) = (l[x]).toNat := by
  rw [List.drop_eq_getElem_cons h]; rfl
theorem Upto.ascii {l : List UInt8} {e : Nat} (h : Upto l e) : ∀ {x : Nat}, x < e → hd (l.drop x) < 128 → Upto l x ∧ Upto l (x + 1) := by
  induction h with
  | zero l => intro x hx; omega
  | @step l d hc h ih =>
    intro x hx hb
    have hp := nx_c hc
    by_cases h1 : x < (nx l).2
    · rcases nx_read l with h2 | ⟨r, h2, h3, h4, h5⟩
      · rw [h2] at hp; simp at hp
      · have h6 : x < sz r := by rw [h3] at h1; exact h1
        have hl := put_length r
        have h7 : ((put r)[x]'(by omega)).toNat < 128 := by
          rw [hd_at (by omega)] at hb
          have : (put r)[x]'(by omega) = l[x]'(by omega) := by simp only [h4, List.getElem_take]
          rw [this]; exact hb
        obtain ⟨rfl, h8⟩ := put_tail h2 (by omega) h7
        refine ⟨.zero _, ?_⟩
        have := Upto.one hc
        rw [h3] at this
        simp only [h8] at this
        exact this
    · have := ih (x := x - (nx l).2) (by omega) (by rw [List.drop_drop, show (nx l).2 + (x - (nx l).2) = x by omega]; exact hb)
      have e1 := (Upto.one hc).trans this.1
      have e2 := (Upto.one hc).trans this.2
      rw [show (nx l).2 + (x - (nx l).2) = x by omega] at e1
      rw [show (nx l).2 + (x - (nx l).2 + 1) = x + 1 by omega] at e2
      exact ⟨e1, e2⟩
/-- characters alone -/
def Whole (l : List UInt8) : Prop := Upto l l.length
theorem Whole.drop {l : List UInt8} (h : Whole l) {n : Nat} (hn : Upto l n) : Whole (l.drop n) := by
  unfold Whole at h ⊢
  rw [List.length_drop]
  exact hn.rest h hn.le
theorem Whole.at {l : List UInt8} (h : Whole l) {x : Nat} (hx : x < l.length) (hb : hd (l.drop x) < 128) : Upto l x ∧ Upto l (x + 1) := Upto.ascii h hx hb
theorem bad_whole (s : List UInt8) : ∀ (n : Nat) (k : Nat), s.length - k = n → (∀ j, badAt s k ≠ ((j : Nat) : Int)) → ∀ q, chO (s.drop k) q = none → Upto (s.drop k) (s.length - k) := by
  intro n
  induction n using Nat.strongRecOn with
  | ind n ih =>
    intro k hn hb q hc
    by_cases hk : k < s.length
    · have hne : s.drop k ≠ [] := by apply List.length_pos_iff.1; rw [List.length_drop]; omega
      by_cases hC : isC (nx (s.drop k)).1
      · have hp := nx_c hC
        rw [List.length_drop] at hp
        rw [chO_on hne hC, List.drop_drop] at hc
        have h1 := ih (s.length - (k + (nx (s.drop k)).2)) (by omega) (k + (nx (s.drop k)).2) rfl (by rw [← badAt_on hk (by omega)]; exact hb) _ hc
        rw [← List.drop_drop] at h1
        have := Upto.step hC h1
        rwa [show (nx (s.drop k)).2 + (s.length - (k + (nx (s.drop k)).2)) = s.length - k by omega] at this
      · rw [chO_no hne hC] at hc; cases hc
    · rw [show s.length - k = 0 by omega]; exact .zero _
theorem whole_none {l : List UInt8} (h : chkO l = none) : Whole l ∧ l.length ≤ 65536 := by
  unfold chkO at h
  by_cases h1 : 65536 < l.length
  · rw [if_pos h1] at h; cases h
  · rw [if_neg h1] at h
    by_cases h2 : 0 ≤ badAt l 0
    · rw [if_pos h2] at h; cases h
    · rw [if_neg h2] at h
      have h3 : chO l 0 = none := by
        cases hq : chO l 0 with
        | none => rfl
        | some k => rw [hq] at h; cases h
      have := bad_whole l _ 0 rfl (fun j hj => h2 (by rw [hj]; omega)) 0 h3
      exact ⟨this, by omega⟩
theorem whole_bad {l : List UInt8} : ∀ {n : Nat} {k : Nat}, l.length - k = n → Whole (l.drop k) → badAt l k = -1 := by
  intro n
  induction n using Nat.strongRecOn with
  | ind n ih =>
    intro k hn h
    by_cases hk : k < l.length
    · obtain ⟨hC, h2, h3⟩ := Upto.inv h (by rw [List.length_drop]; omega)
      have hp := nx_c hC
      rw [List.length_drop] at hp
      rw [badAt_on hk (by omega)]
      refine ih (l.length - (k + (nx (l.drop k)).2)) (by omega) rfl ?_
      unfold Whole
      rw [← List.drop_drop, List.length_drop]
      exact h3
    · exact badAt_end (by omega)
theorem whole_chs {l : List UInt8} : ∀ {n : Nat} {k : Nat}, l.length = n → Whole l → chO l k = none := by
  intro n
  induction n using Nat.strongRecOn generalizing l with
  | ind n ih =>
    intro k hn h
    by_cases hl : l = []
    · rw [hl]; rfl
    · have hp := List.length_pos_iff.2 hl
      obtain ⟨hC, h2, h3⟩ := Upto.inv h (by omega)
      have := nx_c hC
      rw [chO_on hl hC]
      refine ih (l.drop (nx l).2).length (by rw [List.length_drop]; omega) rfl ?_
      unfold Whole
      rw [List.length_drop]
      exact h3
theorem none_whole {l : List UInt8} (h : Whole l) (hl : l.length ≤ 65536) : chkO l = none := by
  unfold chkO
  rw [if_neg (by omega), whole_bad rfl (k := 0) h, if_neg (by decide), whole_chs rfl h]
  rfl

/-! ### what is read ends where a character ends; a fault stands where one begins -/
section
variable {α β : Type}
def Up (p : List UInt8 → Out α) : Prop := ∀ l, Whole l → (∀ a n, p l = .ok a n → Upto l n) ∧ (∀ d c, p l = .bad d c → Upto l d)
theorem Up.map {p : List UInt8 → Out α} (H : Up p) (f : α → β) : Up (fun l => (p l).map f) := by
  intro l hl
  constructor
  · intro b n h
    obtain ⟨a, h1, _⟩ := Out.map_ok h
    exact (H l hl).1 a n h1
  · intro d c h
    exact (H l hl).2 d c (Out.map_bad h)
theorem Up.seq {p : List UInt8 → Out α} {g : α → Nat → List UInt8 → Out β} (H : Up p) (G : ∀ a n, Up (g a n)) : Up (fun l => (p l).seq l g) := by
  intro l hl
  constructor
  · intro b n h
    obtain ⟨a, i, j, h1, h2, rfl⟩ := Out.seq_ok' h
    have h3 := (H l hl).1 a i h1
    have := h3.trans ((G a i (l.drop i) (hl.drop h3)).1 b j h2)
    rwa [Nat.add_comm] at this
  · intro d c h
    rcases Out.seq_bad h with h1 | ⟨a, i, j, h1, h2, rfl⟩
    · exact (H l hl).2 d c h1
    · have h3 := (H l hl).1 a i h1
      have := h3.trans ((G a i (l.drop i) (hl.drop h3)).2 j c h2)
      rwa [Nat.add_comm] at this
theorem up_loop {stop : List UInt8 → Bool} {step : Nat → List UInt8 → Out α} (G : Good stop step)
    (H : ∀ k l, stop l = false → Whole l → (∀ a n, step k l = .ok a n → Upto l n) ∧ (∀ d c, step k l = .bad d c → Upto l d)) : ∀ k, Up (loop stop step k) := by
  have main : ∀ (n : Nat) (l : List UInt8), l.length = n → Whole l → ∀ k, (∀ a n, loop stop step k l = .ok a n → Upto l n) ∧ (∀ d c, loop stop step k l = .bad d c → Upto l d) := by
    intro n
    induction n using Nat.strongRecOn with
    | ind n ih =>
      intro l hn hl k
      by_cases hs : stop l = true
      · rw [loop_stop k hs]
        constructor
        · intro a i h; cases h; exact .zero _
        · intro d c h; cases h
      · have hf : stop l = false := by simpa using hs
        cases hq : step k l with
        | ok a j =>
          have hg := G k l a j hf hq
          have h3 := (H k l hf hl).1 a j hq
          obtain ⟨I1, I2⟩ := ih _ (by rw [List.length_drop]; omega) (l.drop j) rfl (hl.drop h3) (k + j)
          rw [loop_ok G hf hq]
          constructor
          · intro zs i h
            obtain ⟨cs, i', h1, rfl, rfl⟩ := Out.pres_ok h
            have := h3.trans (I1 cs i' h1)
            rwa [Nat.add_comm] at this
          · intro d c h
            obtain ⟨d', h1, rfl⟩ := Out.pres_bad h
            have := h3.trans (I2 d' c h1)
            rwa [Nat.add_comm] at this
        | bad d c =>
          rw [loop_bad hf hq]
          constructor
          · intro zs i h; cases h
          · intro d' c' h; cases h; exact (H k l hf hl).2 d c hq
        | un =>
          rw [loop_un hf hq]
          constructor
          · intro zs i h; cases h
          · intro d' c' h; cases h
  exact fun k l hl => main _ l rfl hl k
/-- where a loop's fault comes from -/
theorem loop_at {stop : List UInt8 → Bool} {step : Nat → List UInt8 → Out α} (G : Good stop step) : ∀ (n : Nat) (l : List UInt8), l.length = n → ∀ k,
    (∀ zs i, loop stop step k l = .ok zs i → stop (l.drop i) = true) ∧ (∀ d c, loop stop step k l = .bad d c → ∃ k' j d', j + d' = d ∧ step k' (l.drop j) = .bad d' c) := by
  intro n
  induction n using Nat.strongRecOn with
  | ind n ih =>
    intro l hn k
    by_cases hs : stop l = true
    · rw [loop_stop k hs]
      constructor
      · intro a i h; cases h; exact hs
      · intro d c h; cases h
    · have hf : stop l = false := by simpa using hs
      cases hq : step k l with
      | ok a j =>
        have hg := G k l a j hf hq
        obtain ⟨I1, I2⟩ := ih _ (by rw [List.length_drop]; omega) (l.drop j) rfl (k + j)
        rw [loop_ok G hf hq]
        constructor
        · intro zs i h
          obtain ⟨cs, i', h1, rfl, rfl⟩ := Out.pres_ok h
          have := I1 cs i' h1
          rwa [List.drop_drop, Nat.add_comm] at this
        · intro d c h
          obtain ⟨d', h1, rfl⟩ := Out.pres_bad h
          obtain ⟨k', j', d2, h2, h3⟩ := I2 d' c h1
          exact ⟨k', j + j', d2, by omega, by rw [← List.drop_drop]; exact h3⟩
      | bad d c =>
        rw [loop_bad hf hq]
        constructor
        · intro zs i h; cases h
        · intro d' c' h; cases h; exact ⟨k, 0, d, by omega, hq⟩
      | un =>
        rw [loop_un hf hq]
        constructor
        · intro zs i h; cases h
        · intro d' c' h; cases h
theorem up_wrong {l : List UInt8} {d : Nat} {c : Int} (h : (wrongO l : Out α) = .bad d c) : Upto l d := by
  obtain ⟨rfl, _, _⟩ := wrongO_bad h
  exact .zero _
end
theorem up_fits {l : List UInt8} {first : Bool} (hl : Whole l) (h : fits first (nx l).1 = true) : Upto l (nx l).2 := by
  have hp := nx_pos h
  exact Upto.one (Upto.inv hl (by omega)).1
theorem up_nmR : ∀ (n : Nat) (l : List UInt8), l.length = n → Whole l → Upto l (nmR l) := by
  intro n
  induction n using Nat.strongRecOn with
  | ind n ih =>
    intro l hn hl
    by_cases hf : fits false (nx l).1 = true
    · have hp := nx_pos hf
      have h1 := up_fits hl hf
      rw [nmR_on hf]
      exact h1.trans (ih _ (by rw [List.length_drop]; omega) _ rfl (hl.drop h1))
    · rw [nmR_no hf]; exact .zero _
theorem up_nm {l : List UInt8} (hl : Whole l) : Upto l (nm l) := by
  by_cases hf : fits true (nx l).1 = true
  · have h1 := up_fits hl hf
    rw [nm_on hf]
    exact h1.trans (up_nmR _ _ rfl (hl.drop h1))
  · rw [nm_no hf]; exact .zero _
theorem up_name : Up nameO := by
  intro l hl
  unfold nameO
  constructor
  · intro a n h
    split at h
    · exact absurd h wrongO_ok
    · cases h; exact up_nm hl
  · intro d c h
    split at h
    · exact up_wrong h
    · cases h
theorem up_must {c : Nat} (hc : c ≠ 0) (h8 : c < 128) : Up (mustO c) := by
  intro l hl
  constructor
  · intro a n h
    obtain ⟨rfl, h1, h2⟩ := mustO_le hc h
    exact (hl.at (x := 0) (by omega) (by rw [List.drop_zero, h2]; exact h8)).2
  · intro d c' h
    unfold mustO at h
    split at h
    · cases h
    · exact up_wrong h
theorem isW_lt {c : Nat} (h : isW c = true) : c < 128 := by
  unfold isW at h
  simp only [Bool.or_eq_true, beq_iff_eq] at h
  omega
theorem up_wh : ∀ (n : Nat) (l : List UInt8), l.length = n → Whole l → Upto l (wh l) := by
  intro n
  induction n using Nat.strongRecOn with
  | ind n ih =>
    intro l hn hl
    by_cases hw : isW (hd l) = true
    · have hp := isW_pos hw
      have h1 := (hl.at (x := 0) (by omega) (by rw [List.drop_zero]; exact isW_lt hw)).2
      rw [wh_hd hw, Nat.add_comm]
      exact h1.trans (ih _ (by rw [List.length_drop]; omega) _ rfl (hl.drop h1))
    · rw [wh_no (by simpa using hw)]; exact .zero _
theorem up_sp : Up spO := by
  intro l hl
  constructor
  · intro a n h; cases h; exact up_wh _ l rfl hl
  · intro d c h; cases h
theorem up_value : Up valueO := by
  intro l hl
  constructor
  · intro a n h
    have hp := valueO_le h
    unfold valueO at h
    by_cases h1 : hd l ≠ 34 ∧ hd l ≠ 39
    · rw [if_pos h1] at h; exact absurd h wrongO_ok
    · rw [if_neg h1] at h
      obtain ⟨j, h2, rfl⟩ := Out.on_ok h
      obtain ⟨i, h3, rfl⟩ := Out.more_ok h2
      obtain ⟨zs, h4, rfl⟩ := Out.map_ok h3
      have h5 := (loop_at (goodV (hd l)) _ (l.drop 1) rfl 0).1 zs i h4
      have h6 : hd (l.drop (i + 1)) = hd l := by
        unfold stopV at h5
        rw [List.drop_drop, Nat.add_comm] at h5
        simpa using h5
      exact (hl.at (x := i + 1) (by omega) (by omega)).2
  · intro d c h
    obtain ⟨hdl, _, _⟩ := (tk_value l).2 d c h
    unfold valueO at h
    by_cases h1 : hd l ≠ 34 ∧ hd l ≠ 39
    · rw [if_pos h1] at h; exact up_wrong h
    · rw [if_neg h1] at h
      obtain ⟨j, h2, rfl⟩ := Out.on_bad h
      obtain ⟨k', i, d', rfl, h5⟩ := (loop_at (goodV (hd l)) _ (l.drop 1) rfl 0).2 j c (Out.map_bad (Out.more_bad h2))
      obtain ⟨rfl, _, _, h6⟩ := stepV_bad h5
      rw [List.drop_drop] at h6
      exact (hl.at (x := i + 0 + 1) hdl (by rw [show i + 0 + 1 = 1 + i by omega]; exact h6)).1
theorem up_attr (k : Nat) : Up (attrO k) :=
  up_name.seq fun _ _ => up_sp.seq fun _ _ => (up_must (by decide) (by decide)).seq fun _ _ => up_sp.seq fun _ _ => up_value.map _
theorem up_stepA (k : Nat) : Up (stepA k) := by
  intro l hl
  unfold stepA
  have h3 := up_wh _ l rfl hl
  constructor
  · intro a n h
    split at h
    · exact absurd h wrongO_ok
    · obtain ⟨j, h1, rfl⟩ := Out.on_ok h
      have := h3.trans ((up_attr _ (l.drop (wh l)) (hl.drop h3)).1 a j h1)
      rwa [Nat.add_comm] at this
  · intro d c h
    split at h
    · exact up_wrong h
    · obtain ⟨j, h1, rfl⟩ := Out.on_bad h
      have := h3.trans ((up_attr _ (l.drop (wh l)) (hl.drop h3)).2 j c h1)
      rwa [Nat.add_comm] at this
theorem up_loopA (k : Nat) : Up (loop stopA stepA k) := up_loop goodA (fun k l _ hl => up_stepA k l hl) k
theorem up_empty : Up (fun l1 : List UInt8 => if hd l1 = 47 then (Out.ok true 1).seq l1 (fun e _ l2 => (mustO 62 l2).map fun _ => e) else (mustO 62 l1).map fun _ => false) := by
  intro l hl
  have hk : ∀ e : Bool, Up (fun l2 => (mustO 62 l2).map fun _ => e) := fun e => (up_must (by decide) (by decide)).map _
  by_cases h0 : hd l = 47
  · have h1 : Up (fun l1 : List UInt8 => (mustO 47 l1).seq l1 fun _ _ l2 => (mustO 62 l2).map fun _ => true) := (up_must (by decide) (by decide)).seq fun _ _ => hk true
    have h2 : mustO 47 l = .ok () 1 := by unfold mustO; rw [if_pos h0]
    have h3 := h1 l hl
    simp only [h2] at h3
    simp only [if_pos h0]
    exact h3
  · simp only [if_neg h0]
    exact hk false l hl
theorem up_tail : Up tailO := up_sp.seq fun _ _ => up_empty
theorem up_start (f k : Nat) : Up (startO f k) := up_name.seq fun _ n => (up_loopA (k + n)).seq fun _ _ => up_tail.map _
theorem up_end (f : Nat) : Up (endO f) := up_name.seq fun _ _ => up_sp.seq fun _ _ => (up_must (by decide) (by decide)).map _
/-- what ends with '>' ends where a character ends -/
theorem up_gt {p l a : List UInt8} {n : Nat} (h : upO (p ++ [62]) l = .ok a n) (hn : 1 ≤ n) : n ≤ l.length ∧ hd (l.drop (n - 1)) = 62 := by
  have h1 := upO_le h
  refine ⟨h1.2, ?_⟩
  unfold upO at h
  split at h
  · rename_i h0
    cases h
    rcases Lib.index_spec l (p ++ [62]) with ⟨h2, _⟩ | ⟨i, h2, h3, h4, _⟩
    · omega
    · rw [h2]
      simp only [Int.toNat_natCast, List.length_append, List.length_cons, List.length_nil]
      unfold Lib.occAt at h4
      obtain ⟨t, ht⟩ := prefix_iff.1 (show Lib.hasPrefix (l.drop i) (p ++ [62]) = true from h4)
      rw [show i + (p.length + (0 + 1)) - 1 = i + p.length by omega, ← List.drop_drop, ht, List.append_assoc, List.drop_left]
      rfl
  · cases h
theorem up_text : Up textO := by
  intro l hl
  constructor
  · intro a n h
    have hle := textO_le h
    unfold textO at h
    obtain ⟨zs, h1, _⟩ := Out.map_ok h
    have h2 := (loop_at goodT _ l rfl 0).1 zs n h1
    by_cases hn : n = l.length
    · rw [hn]; exact hl
    · unfold stopT at h2
      rw [Bool.or_eq_true] at h2
      rcases h2 with h2 | h2
      · rw [List.isEmpty_iff, List.drop_eq_nil_iff] at h2
        omega
      · exact (hl.at (x := n) (by omega) (by rw [beq_iff_eq] at h2; omega)).1
  · intro d c h
    obtain ⟨h1, _, h2, _⟩ := textO_bad h
    exact (hl.at h1 (by omega)).1
theorem up_here {l : List UInt8} (hl : Whole l) {n : Nat} (h1 : 1 ≤ n) (h2 : n ≤ l.length) (h3 : hd (l.drop (n - 1)) < 128) : Upto l n := by
  have := (hl.at (x := n - 1) (by omega) h3).2
  rwa [show n - 1 + 1 = n by omega] at this
theorem pre_one {b : UInt8} {t : List UInt8} (hb : b.toNat < 128) (hl : Whole (b :: t)) : Upto (b :: t) 1 ∧ Whole t := by
  have h1 : Upto (b :: t) 1 := (hl.at (x := 0) (by simp) hb).2
  exact ⟨h1, hl.drop h1⟩
theorem up_pre : ∀ (p l : List UInt8), (∀ b ∈ p, b.toNat < 128) → Whole l → Lib.hasPrefix l p = true → Upto l p.length := by
  intro p
  induction p with
  | nil => intro l _ _ _; exact .zero _
  | cons b p ih =>
    intro l hp hl h
    obtain ⟨t, rfl⟩ := prefix_iff.1 h
    obtain ⟨h1, h2⟩ := pre_one (hp b (List.mem_cons_self ..)) hl
    have := h1.trans (ih (p ++ t) (fun c hc => hp c (List.mem_cons_of_mem _ hc)) h2 (prefix_iff.2 ⟨t, rfl⟩))
    rw [List.length_cons, Nat.add_comm]
    exact this
theorem up_stepD (k : Nat) (l : List UInt8) (hl : Whole l) : (∀ a n, stepD k l = .ok a n → Upto l n) ∧ (∀ d c, stepD k l = .bad d c → Upto l d) := by
  constructor
  · intro a n h
    unfold stepD at h
    split at h
    · obtain ⟨j, h1, rfl⟩ := Out.on_ok h
      obtain ⟨t, h2, _⟩ := Out.map_ok h1
      have h3 := upO_le h2
      simp only [List.length_cons, List.length_nil, List.length_drop] at h3
      have h4 := up_gt (p := [45, 45]) h2 (by omega)
      rw [List.drop_drop] at h4
      exact up_here hl (by omega) (by omega) (by rw [show j + 4 - 1 = 4 + (j - 1) by omega, h4.2]; decide)
    · split at h
      · obtain ⟨j, h1, rfl⟩ := Out.on_ok h
        obtain ⟨t, h2, _⟩ := Out.map_ok h1
        have h3 := upO_le h2
        simp only [List.length_cons, List.length_nil, List.length_drop] at h3
        have h4 := up_gt (p := [93, 93]) h2 (by omega)
        rw [List.drop_drop] at h4
        exact up_here hl (by omega) (by omega) (by rw [show j + 9 - 1 = 9 + (j - 1) by omega, h4.2]; decide)
      · split at h
        · rename_i h3
          obtain ⟨j, h1, rfl⟩ := Out.on_ok h
          have h5 := up_pre [60, 47] l (by decide) hl h3
          have := h5.trans (((up_end k).map some (l.drop 2) (hl.drop h5)).1 a j h1)
          rwa [Nat.add_comm] at this
        · split at h
          · rename_i h3
            obtain ⟨j, h1, rfl⟩ := Out.on_ok h
            have h5 := up_pre [60] l (by decide) hl h3
            have := h5.trans (((up_start k (k + 1)).map some (l.drop 1) (hl.drop h5)).1 a j h1)
            rwa [Nat.add_comm] at this
          · obtain ⟨t, h1, _⟩ := Out.map_ok h
            exact (up_text l hl).1 t n h1
  · intro d c h
    unfold stepD at h
    split at h
    · obtain ⟨j, h1, rfl⟩ := Out.on_bad h
      have h2 := Out.map_bad h1
      unfold upO at h2
      split at h2 <;> cases h2
    · split at h
      · obtain ⟨j, h1, rfl⟩ := Out.on_bad h
        have h2 := Out.map_bad h1
        unfold upO at h2
        split at h2 <;> cases h2
      · split at h
        · rename_i h3
          obtain ⟨j, h1, rfl⟩ := Out.on_bad h
          have h5 := up_pre [60, 47] l (by decide) hl h3
          have := h5.trans (((up_end k).map some (l.drop 2) (hl.drop h5)).2 j c h1)
          rwa [Nat.add_comm] at this
        · split at h
          · rename_i h3
            obtain ⟨j, h1, rfl⟩ := Out.on_bad h
            have h5 := up_pre [60] l (by decide) hl h3
            have := h5.trans (((up_start k (k + 1)).map some (l.drop 1) (hl.drop h5)).2 j c h1)
            rwa [Nat.add_comm] at this
          · exact (up_text l hl).2 d c (Out.map_bad h)
theorem up_doc (k : Nat) : Up (docO k) := by
  unfold docO
  refine up_loop goodD ?_ k
  intro k l _ hl
  obtain ⟨h1, h2⟩ := up_stepD k l hl
  constructor
  · intro a n h; exact h1 a n (Out.fin_ok h)
  · intro d c h
    rcases Out.fin_bad h with h3 | ⟨_, rfl, _⟩
    · exact h2 d c h3
    · exact .zero _
theorem up_decl : Up (fun l => (declO l).fin) := by
  intro l hl
  constructor
  · intro a n h
    have h1 := Out.fin_ok h
    unfold declO at h1
    split at h1
    · obtain ⟨t, h2, _⟩ := Out.map_ok h1
      have h3 := upO_le h2
      simp only [List.length_cons, List.length_nil] at h3
      have h4 := up_gt (p := [63]) h2 (by omega)
      exact up_here hl (by omega) (by omega) (by rw [h4.2]; decide)
    · cases h1; exact .zero _
  · intro d c h
    rcases Out.fin_bad h with h3 | ⟨_, rfl, _⟩
    · unfold declO at h3
      split at h3
      · have h2 := Out.map_bad h3
        unfold upO at h2
        split at h2 <;> cases h2
      · cases h3
    · exact .zero _
theorem up_marks : Up marksO := up_decl.seq fun _ n => (up_doc n).map _

theorem chO_lt : ∀ (n : Nat) (l : List UInt8), l.length = n → ∀ q k, chO l q = some k → k < q + l.length := by
  intro n
  induction n using Nat.strongRecOn with
  | ind n ih =>
    intro l hn q k h
    by_cases hl : l = []
    · rw [hl, chO_nil] at h; cases h
    · have hp := List.length_pos_iff.2 hl
      by_cases hC : isC (nx l).1
      · have := nx_c hC
        rw [chO_on hl hC] at h
        have := ih _ (by rw [List.length_drop]; omega) (l.drop (nx l).2) rfl _ k h
        rw [List.length_drop] at this
        omega
      · rw [chO_no hl hC] at h
        cases h
        omega
/-- what MarkupFaults asks -/
theorem flt_ok (l : List UInt8) : FltOk l := by
  intro x c h
  unfold resO at h
  cases hc : chkO l with
  | some y =>
    rw [hc] at h
    cases h
    unfold chkO at hc
    by_cases h1 : 65536 < l.length
    · rw [if_pos h1] at hc; cases hc
      exact ⟨by omega, by decide, by decide, fun h => by omega⟩
    · rw [if_neg h1] at hc
      by_cases h2 : 0 ≤ badAt l 0
      · rw [if_pos h2] at hc
        cases hc
        rcases badAt_ways l _ 0 rfl with h3 | ⟨k, h3, _, h4, _⟩
        · omega
        · rw [h3]
          exact ⟨by omega, by decide, by decide, fun h => by omega⟩
      · rw [if_neg h2] at hc
        cases hq : chO l 0 with
        | none => rw [hq] at hc; cases hc
        | some k =>
          rw [hq] at hc; cases hc
          have := chO_lt _ l rfl 0 _ hq
          exact ⟨by omega, by decide, by decide, fun h => by omega⟩
  | none =>
    rw [hc] at h
    obtain ⟨hw, hl⟩ := whole_none hc
    cases hm : marksO l with
    | ok ms n => rw [hm] at h; cases h
    | bad d c' =>
      rw [hm] at h
      cases h
      obtain ⟨h1, h2⟩ := marks_cut hm
      refine ⟨h1, by omega, by omega, ?_⟩
      intro h3
      have h4 : (∃ a i, marksO (l.take x) = .ok a i) ∨ ∃ y, marksO (l.take x) = .bad y 84 := by
        rcases h2 with h2 | h2
        · omega
        · exact h2.2
      have h5 : chkO (l.take x) = none := by
        have := ((up_marks l hw).2 x c hm).take
        refine none_whole ?_ (by rw [List.length_take]; omega)
        unfold Whole
        rw [List.length_take, Nat.min_eq_left (by omega)]
        exact this
      unfold resO
      rw [h5]
      rcases h4 with ⟨a, i, e⟩ | ⟨y, e⟩
      · left; rw [e]; exact ⟨_, rfl⟩
      · right; rw [e]; exact ⟨_, rfl⟩
    | un =>
      exfalso
      unfold marksO at hm
      cases hd : declO l with
      | ok a n =>
        rw [hd] at hm
        simp only [Out.fin, Out.seq] at hm
        cases hq : docO n (l.drop n) with
        | ok b m => rw [hq] at hm; cases hm
        | bad b m => rw [hq] at hm; cases hm
        | un => exact loop_not_un (fun k l => by cases stepD k l <;> simp [Out.fin]) hq
      | bad d c => rw [hd] at hm; cases hm
      | un => rw [hd] at hm; cases hm
end Go.Proofs.YtbokcihlbpeagaaDoor
