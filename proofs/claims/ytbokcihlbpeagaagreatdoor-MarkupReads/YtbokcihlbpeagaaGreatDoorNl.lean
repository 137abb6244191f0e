/-
  What is proved: plain mathematics: what Escape and Quote write is read again as it was. Conditions: those in each statement.
-/
import Derived.Test.YtbokcihlbpeagaaGreatDoorNa
import Derived.Test.YtbokcihlbpeagaaGreatDoorRw
namespace Go.Proofs.YtbokcihlbpeagaaGreatDoor

/-- a byte's way of being written -/
def swp (v : Bool) (b : UInt8) : List UInt8 :=
  if b = 38 then [38, 97, 109, 112, 59] else if b = 60 then [38, 108, 116, 59] else if b = 62 ∧ v = false then [38, 103, 116, 59]
  else if b = 13 then [38, 35, 49, 51, 59] else if b = 34 ∧ v = true then [38, 113, 117, 111, 116, 59]
  else if b = 9 ∧ v = true then [38, 35, 57, 59] else if b = 10 ∧ v = true then [38, 35, 49, 48, 59] else [b]
def escO (v : Bool) (l : List UInt8) : List UInt8 := l.flatMap (swp v)
theorem escO_cons (v : Bool) (b : UInt8) (t : List UInt8) : escO v (b :: t) = swp v b ++ escO v t := rfl
theorem escO_app (v : Bool) (a b : List UInt8) : escO v (a ++ b) = escO v a ++ escO v b := by simp [escO]
theorem swp_len (v : Bool) (b : UInt8) : 1 ≤ (swp v b).length ∧ (swp v b).length ≤ 6 := by
  unfold swp
  repeat' split
  all_goals simp
theorem escO_len (v : Bool) (l : List UInt8) : (escO v l).length ≤ 6 * l.length := by
  induction l with
  | nil => simp [escO]
  | cons b t ih => rw [escO_cons, List.length_append, List.length_cons]; have := swp_len v b; omega
theorem index_semi {x t : List UInt8} (h : (59 : UInt8) ∉ x) : Lib.index (x ++ 59 :: t) [59] = x.length := by
  refine Lib.index_first (by simp) ?_ ?_
  · simp [Lib.occAt, List.isPrefixOf]
  · intro j hj
    unfold Lib.occAt
    rw [List.drop_append_of_le_length (by omega), List.drop_eq_getElem_cons hj]
    simp only [List.cons_append, List.isPrefixOf, Bool.and_eq_false_iff]
    left
    refine beq_eq_false_iff_ne.2 fun e => h (e ▸ List.getElem_mem hj)
theorem refO_ent {x y : List UInt8} (t : List UInt8) (h : (59 : UInt8) ∉ x) (hm : mean x = y) (hy : y ≠ []) : refO (x ++ 59 :: t) = .ok y (x.length + 1) := by
  unfold refO
  rw [index_semi h]
  have e : (x ++ 59 :: t).take x.length = x := by simp
  simp only [Int.toNat_natCast, e, hm]
  rw [if_pos ⟨by omega, hy⟩]
theorem piece_ent {x : List UInt8} {b : UInt8} (t : List UInt8) (h : (59 : UInt8) ∉ (38 :: x)) (hm : mean (38 :: x) = [b]) (v : Bool) : stpc v ((38 :: x ++ [59]) ++ t) = .ok [b] (38 :: x ++ [59]).length := by
  have h1 : refO ((38 :: x ++ [59]) ++ t) = .ok [b] (38 :: x ++ [59]).length := by
    have := refO_ent t h hm (by simp)
    rw [List.append_assoc]
    simpa using this
  have h2 : pieceO ((38 :: x ++ [59]) ++ t) = .ok [b] (38 :: x ++ [59]).length := by
    unfold pieceO
    rw [if_pos (by rfl), h1]
  cases v
  · exact h2
  · show stepV (38 :: x ++ [59] ++ t) = _
    unfold stepV
    rw [if_neg (by show ¬ ((38 : Nat) = 60 ∨ (38 : Nat) = 0); omega), if_neg (by show ¬ isW 38 = true; decide), h2]
theorem stop_amp {v : Bool} {q : Nat} (hq : qOk v q) (t : List UInt8) : stop_ v q (38 :: t) = false := by
  cases v
  · rfl
  · rcases hq with rfl | rfl <;> rfl
theorem stpc_swp {v : Bool} {q : Nat} (hq : if v = true then q = 34 else q = 60) {b : UInt8} (h0 : b ≠ 0) (t : List UInt8) : stop_ v q (swp v b ++ t) = false ∧ stpc v (swp v b ++ t) = .ok [b] (swp v b).length := by
  have hq' : qOk v q := by
    cases v
    · exact hq
    · exact .inl hq
  unfold swp
  split
  · rename_i h; subst h; exact ⟨stop_amp hq' _, piece_ent (x := [97, 109, 112]) t (by decide) (by decide) v⟩
  split
  · rename_i h; subst h; exact ⟨stop_amp hq' _, piece_ent (x := [108, 116]) t (by decide) (by decide) v⟩
  split
  · rename_i h; obtain ⟨rfl, _⟩ := h; exact ⟨stop_amp hq' _, piece_ent (x := [103, 116]) t (by decide) (by decide) v⟩
  split
  · rename_i h; subst h; exact ⟨stop_amp hq' _, piece_ent (x := [35, 49, 51]) t (by decide) (by decide) v⟩
  split
  · rename_i h; obtain ⟨rfl, _⟩ := h; exact ⟨stop_amp hq' _, piece_ent (x := [113, 117, 111, 116]) t (by decide) (by decide) v⟩
  split
  · rename_i h; obtain ⟨rfl, _⟩ := h; exact ⟨stop_amp hq' _, piece_ent (x := [35, 57]) t (by decide) (by decide) v⟩
  split
  · rename_i h; obtain ⟨rfl, _⟩ := h; exact ⟨stop_amp hq' _, piece_ent (x := [35, 49, 48]) t (by decide) (by decide) v⟩
  rename_i n38 n60 n62 n13 n34 n9 n10
  have e38 : b.toNat ≠ 38 := fun e => n38 (UInt8.toNat_inj.1 e)
  have e60 : b.toNat ≠ 60 := fun e => n60 (UInt8.toNat_inj.1 e)
  have hin : inS q b = true := by
    unfold inS
    simp only [Bool.and_eq_true, bne_iff_ne, ne_eq]
    refine ⟨⟨?_, e60⟩, e38⟩
    cases v
    · rw [show q = 60 from hq]; exact e60
    · rw [show q = 34 from hq]; exact fun e => n34 ⟨UInt8.toNat_inj.1 e, rfl⟩
  refine ⟨stop_in hq' hin, ?_⟩
  rw [List.singleton_append, stpc_b hin n13 h0]
  have : bl v b = b := by
    unfold bl
    split
    · rename_i h
      obtain ⟨rfl, hw⟩ := h
      unfold isW at hw
      simp only [Bool.or_eq_true, beq_iff_eq] at hw
      rcases hw with ((hw | hw) | hw) | hw
      · exact (UInt8.toNat_inj.1 hw).symm
      · exact absurd ⟨UInt8.toNat_inj.1 hw, rfl⟩ n9
      · exact absurd (UInt8.toNat_inj.1 hw) n13
      · exact absurd ⟨UInt8.toNat_inj.1 hw, rfl⟩ n10
    · rfl
  rw [this]; rfl
theorem run_esc {v : Bool} {q : Nat} (hq : if v = true then q = 34 else q = 60) (k : Nat) (L R : List UInt8) : ∀ (l : List UInt8), (∀ b ∈ l, b ≠ 0) → ∀ (n : Nat) (a : List UInt8), RunB v q k L n a → L.drop n = escO v l ++ R → RunB v q k L (n + (escO v l).length) (a ++ l) := by
  intro l
  induction l with
  | nil => intro _ n a h _; simpa [escO] using h
  | cons b t ih =>
    intro h0 n a h hd
    have hb := stpc_swp hq (h0 b (by simp)) (escO v t ++ R)
    rw [escO_cons, List.append_assoc] at hd
    have h1 := h.on (by rw [hd]; exact hb.1) (by rw [hd]; exact hb.2)
    have h2 := ih (fun c hc => h0 c (by simp [hc])) _ _ h1 (by rw [← List.drop_drop, hd, List.drop_left])
    rw [escO_cons, List.length_append, ← Nat.add_assoc]
    simpa using h2

/-! ### characters -/
def good (l : List UInt8) : Prop := ∃ rs : List Int, (∀ r ∈ rs, isC r) ∧ l = (rs.map put).flatten
theorem good_nil : good [] := ⟨[], by simp, rfl⟩
theorem good_app {a b : List UInt8} (ha : good a) (hb : good b) : good (a ++ b) := by
  obtain ⟨x, hx, rfl⟩ := ha
  obtain ⟨y, hy, rfl⟩ := hb
  exact ⟨x ++ y, by intro r hr; rcases List.mem_append.1 hr with h | h; exact hx r h; exact hy r h, by simp⟩
theorem good_put {r : Int} (h : isC r) : good (put r) := ⟨[r], by simpa using h, by simp⟩
theorem put_ascii {b : UInt8} (h : b.toNat < 128) : put (b.toNat : Int) = [b] := by
  have hr : isR (b.toNat : Int) := by unfold isR; omega
  unfold put
  rw [if_pos hr, if_pos (by omega), byteOf_eq rfl]
theorem nx_asc {b : UInt8} (h : b.toNat < 128) (t : List UInt8) : nx (b :: t) = ((b.toNat : Int), 1) := by
  have hr : isR (b.toNat : Int) := by unfold isR; omega
  have h1 := nx_put hr t
  have h2 : sz (b.toNat : Int) = 1 := by rw [← put_length, put_ascii h]; rfl
  rw [put_ascii h, h2] at h1
  exact h1
theorem good_asc {b : UInt8} (h : b.toNat < 128) (hc : isC (b.toNat : Int)) : good [b] := by
  rw [← put_ascii h]; exact good_put hc
theorem isC_isR {r : Int} (h : isC r) : isR r := (isC_iff.1 h).1
theorem chO_good : ∀ (rs : List Int), (∀ r ∈ rs, isC r) → ∀ k, chO (rs.map put).flatten k = none := by
  intro rs
  induction rs with
  | nil => intro _ k; rfl
  | cons r t ih =>
    intro h k
    have hr := h r (by simp)
    have hn := nx_put (isC_isR hr) (t.map put).flatten
    rw [List.map_cons, List.flatten_cons]
    rw [chO_on (by intro e; have := put_ne.2 (isC_isR hr); simp at e; exact this e.1) (by rw [hn]; exact hr), hn, show (put r ++ (t.map put).flatten).drop (sz r) = (t.map put).flatten by rw [← put_length]; simp]
    exact ih (fun x hx => h x (by simp [hx])) _
theorem chk_good {l : List UInt8} (h : good l) (hl : l.length ≤ 65536) : chkO l = none := by
  obtain ⟨rs, hr, rfl⟩ := h
  have hb := badAt_runes rs (fun r h => isC_isR (hr r h)) []
  simp only [List.nil_append, List.length_nil] at hb
  unfold chkO
  rw [if_neg (by omega), if_neg (by rw [hb]; decide), chO_good rs hr]
  rfl
theorem good_chO : ∀ (n : Nat) (l : List UInt8), l.length ≤ n → ∀ k, chO l k = none → good l := by
  intro n
  induction n with
  | zero => intro l h k _; obtain rfl := List.length_eq_zero_iff.1 (by omega : l.length = 0); exact good_nil
  | succ n ih =>
    intro l h k hc
    by_cases h0 : l = []
    · rw [h0]; exact good_nil
    · by_cases hx : isC (nx l).1
      · have hp := nx_c hx
        rw [chO_on h0 hx] at hc
        have h1 := ih _ (by rw [List.length_drop]; omega) _ hc
        rcases nx_read l with h2 | ⟨r, hr, he, hput, hl⟩
        · rw [h2] at hx; exact absurd hx (by decide)
        · rw [he] at hx h1
          have := good_app (good_put hx) h1
          rw [hput] at this
          simpa using this
      · rw [chO_no h0 hx] at hc; cases hc
theorem good_chk {l : List UInt8} (h : chkO l = none) : good l := by
  unfold chkO at h
  split at h
  · cases h
  split at h
  · cases h
  cases hc : chO l 0 with
  | none => exact good_chO _ l (Nat.le_refl _) 0 hc
  | some x => rw [hc] at h; cases h
theorem good_induct {p : List UInt8 → Prop} (h0 : p []) (h1 : ∀ r l, isC r → p l → p (put r ++ l)) {l : List UInt8} (h : good l) : p l := by
  obtain ⟨rs, hr, rfl⟩ := h
  induction rs with
  | nil => exact h0
  | cons r t ih => exact h1 r _ (hr r (by simp)) (ih fun x hx => hr x (by simp [hx]))
theorem put_high {r : Int} (h : ¬ r < 128) : ∀ b ∈ put r, 128 ≤ b.toNat := by
  unfold put
  by_cases hr : isR r
  · have hr' := hr
    unfold isR at hr'
    rw [if_pos hr, if_neg h]
    have key : ∀ x : Int, 128 ≤ x → x < 256 → 128 ≤ (byteOf x).toNat := by intro x h1 h2; rw [byteOf_nat (by omega) h2]; omega
    intro b hb
    split at hb
    · simp only [List.mem_cons, List.not_mem_nil, or_false] at hb
      rcases hb with rfl | rfl <;> apply key <;> omega
    split at hb
    · simp only [List.mem_cons, List.not_mem_nil, or_false] at hb
      rcases hb with rfl | rfl | rfl <;> apply key <;> omega
    · simp only [List.mem_cons, List.not_mem_nil, or_false] at hb
      rcases hb with rfl | rfl | rfl | rfl <;> apply key <;> omega
  · rw [if_neg hr]; simp
theorem swp_high {v : Bool} {b : UInt8} (h : 128 ≤ b.toNat) : swp v b = [b] := by
  have e : ∀ c : UInt8, c.toNat < 128 → b ≠ c := by rintro c hc rfl; omega
  unfold swp
  rw [if_neg (e 38 (by decide)), if_neg (e 60 (by decide)), if_neg (fun h => e 62 (by decide) h.1), if_neg (e 13 (by decide)), if_neg (fun h => e 34 (by decide) h.1), if_neg (fun h => e 9 (by decide) h.1), if_neg (fun h => e 10 (by decide) h.1)]
theorem esc_high {v : Bool} : ∀ (l : List UInt8), (∀ b ∈ l, 128 ≤ b.toNat) → escO v l = l := by
  intro l
  induction l with
  | nil => intro _; rfl
  | cons b t ih => intro h; rw [escO_cons, swp_high (h b (by simp)), ih fun c hc => h c (by simp [hc])]; rfl
theorem good_lit (l : List UInt8) (h : ∀ b ∈ l, 32 ≤ b.toNat ∧ b.toNat < 128) : good l := by
  induction l with
  | nil => exact good_nil
  | cons b t ih =>
    have hb := h b (by simp)
    exact good_app (a := [b]) (good_asc hb.2 (isC_iff.2 ⟨⟨by omega, by omega, by omega⟩, by omega, by omega, by omega⟩)) (ih fun c hc => h c (by simp [hc]))
theorem good_swp {v : Bool} {b : UInt8} (h : good [b]) : good (swp v b) := by
  unfold swp
  repeat' split
  all_goals first
    | exact h
    | exact good_lit _ (by decide)
theorem good_esc (v : Bool) {l : List UInt8} (h : good l) : good (escO v l) := by
  refine good_induct (p := fun l => good (escO v l)) good_nil ?_ h
  intro r l hr ih
  rw [escO_app]
  refine good_app ?_ ih
  by_cases h1 : r < 128
  · have hr' := isC_isR hr
    unfold isR at hr'
    obtain ⟨n, rfl⟩ := Int.eq_ofNat_of_zero_le hr'.1
    have e : put ((n : Nat) : Int) = [byteOf (n : Int)] := by unfold put; rw [if_pos (isC_isR hr), if_pos h1]
    have hg := good_put hr
    rw [e] at hg ⊢
    show good (swp v _ ++ [])
    rw [List.append_nil]
    exact good_swp hg
  · rw [esc_high _ (put_high h1)]; exact good_put hr
theorem good_ne {l : List UInt8} (h : good l) : ∀ b ∈ l, b ≠ 0 := by
  refine good_induct (p := fun l => ∀ b ∈ l, b ≠ 0) (by simp) ?_ h
  intro r l hr ih b hb
  rcases List.mem_append.1 hb with hb | hb
  · by_cases h1 : r < 128
    · have hr' := isC_iff.1 hr
      unfold put at hb
      rw [if_pos (isC_isR hr), if_pos h1] at hb
      simp only [List.mem_singleton] at hb
      subst hb
      intro e
      have := byteOf_nat (x := r) (by omega) (by omega)
      rw [e] at this
      have h2 : (0 : UInt8).toNat = 0 := rfl
      omega
    · have := put_high h1 b hb
      rintro rfl
      exact absurd this (by decide)
  · exact ih b hb

/-! ### read again -/
theorem whole_esc {v : Bool} {q : Nat} (hq : if v = true then q = 34 else q = 60) {l : List UInt8} (h0 : ∀ b ∈ l, b ≠ 0) (R : List UInt8) (hR : stop_ v q R = true) : wholeO v q (escO v l ++ R) = .ok l (escO v l).length := by
  have h := run_esc hq 0 (escO v l ++ R) R l h0 0 [] (RunB.start _ _ _ _) rfl
  rw [Nat.zero_add, List.nil_append] at h
  exact h.done (by rw [List.drop_left]; exact hR)
theorem swp_hd (b : UInt8) : ∃ c t, swp false b = c :: t ∧ c ≠ 60 := by
  unfold swp
  repeat' split
  all_goals first
    | exact ⟨_, _, rfl, by decide⟩
    | (rename_i n1 n2 n3 n4 n5 n6 n7; exact ⟨_, _, rfl, n2⟩)
theorem esc_hd {l : List UInt8} (h : l ≠ []) : ∃ c t, escO false l = c :: t ∧ c ≠ 60 := by
  cases l with
  | nil => exact absurd rfl h
  | cons b t =>
    obtain ⟨c, u, e, hc⟩ := swp_hd b
    exact ⟨c, u ++ escO false t, by rw [escO_cons, e]; rfl, hc⟩
theorem pre_no {c : UInt8} {t p : List UInt8} (h : c ≠ 60) : Lib.hasPrefix (c :: t) (60 :: p) = false := by
  show (60 :: p).isPrefixOf (c :: t) = false
  rw [List.isPrefixOf, beq_eq_false_iff_ne.2 (Ne.symm h), Bool.false_and]
theorem res_text {l : List UInt8} (hg : good l) (hne : l ≠ []) (hl : l.length < 3000) : resO (escO false l) = .inl [⟨3, [], [], false, l, 0⟩] := by
  have hlen := escO_len false l
  obtain ⟨c, t, hct, hc⟩ := esc_hd hne
  have hw : textO (escO false l) = .ok l (escO false l).length := by
    rw [textO_whole]
    have := whole_esc (v := false) (q := 60) rfl (good_ne hg) [] rfl
    rwa [List.append_nil] at this
  have hs : stepD 0 (escO false l) = .ok (some ⟨3, [], [], false, l, 0⟩) (escO false l).length := by
    unfold stepD
    rw [hw, hct, if_neg (by rw [pre_no hc]; simp), if_neg (by rw [pre_no hc]; simp), if_neg (by rw [pre_no hc]; simp), if_neg (by rw [pre_no hc]; simp)]
    rfl
  have hd : docO 0 (escO false l) = .ok [some ⟨3, [], [], false, l, 0⟩] (escO false l).length := by
    unfold docO
    rw [loop_ok goodD (a := some ⟨3, [], [], false, l, 0⟩) (m := (escO false l).length) (by rw [hct]; rfl) (by rw [hs]; rfl), loop_stop _ (by simp)]
    simp [Out.pres]
  have hm : marksO (escO false l) = .ok [⟨3, [], [], false, l, 0⟩] (escO false l).length := by
    have hdc : declO (escO false l) = .ok () 0 := by
      unfold declO declB
      rw [hct, pre_no hc]
      rfl
    unfold marksO
    rw [hdc]
    simp only [Out.fin, Out.seq, List.drop_zero]
    rw [hd]
    rfl
  unfold resO
  rw [chk_good (good_esc false hg) (by omega), hm]
/-- the tag around a quoted text -/
def tagL (x : List UInt8) : List UInt8 := [60, 97, 32, 98, 61] ++ (34 :: (x ++ [34]) ++ [47, 62])
theorem res_tag {l : List UInt8} (hg : good l) (hl : l.length < 3000) : resO (tagL (escO true l)) = .inl [⟨1, [97], [⟨[98], l, 3⟩], true, [], 0⟩] := by
  have hlen := escO_len true l
  have hgood : good (tagL (escO true l)) := by
    unfold tagL
    refine good_app (good_lit _ (by decide)) ?_
    rw [← List.singleton_append]
    exact good_app (good_app (good_lit _ (by decide)) (good_app (good_esc true hg) (good_lit _ (by decide)))) (good_lit _ (by decide))
  have hw : wholeO true 34 (escO true l ++ [34, 47, 62]) = .ok l (escO true l).length := whole_esc (v := true) (q := 34) rfl (good_ne hg) [34, 47, 62] rfl
  have hv : valueO (34 :: (escO true l ++ [34, 47, 62])) = .ok l ((escO true l).length + 1 + 1) := by
    rw [valueO_whole, if_neg (by show ¬ ((34 : Nat) ≠ 34 ∧ (34 : Nat) ≠ 39); omega)]
    show ((wholeO true 34 (escO true l ++ [34, 47, 62])).more 1).on 1 = _
    rw [hw]
    rfl
  have e : tagL (escO true l) = 60 :: 97 :: 32 :: 98 :: 61 :: 34 :: (escO true l ++ [34, 47, 62]) := by simp [tagL]
  generalize hE : escO true l ++ [34, 47, 62] = E at *
  have hEl : E.length = (escO true l).length + 3 := by rw [← hE]; simp
  have hEd : E.drop ((escO true l).length + 1) = [47, 62] := by rw [← hE, List.drop_append]; simp
  have n1 : nm (97 :: 32 :: 98 :: 61 :: 34 :: E) = 1 := by
    have x1 := nx_asc (b := 97) (by decide) (32 :: 98 :: 61 :: 34 :: E)
    have x2 := nx_asc (b := 32) (by decide) (98 :: 61 :: 34 :: E)
    rw [nm_on (by rw [x1]; decide), x1]
    show 1 + nmR (32 :: 98 :: 61 :: 34 :: E) = 1
    rw [nmR_no (by rw [x2]; decide)]
  have n2 : nm (98 :: 61 :: 34 :: E) = 1 := by
    have x1 := nx_asc (b := 98) (by decide) (61 :: 34 :: E)
    have x2 := nx_asc (b := 61) (by decide) (34 :: E)
    rw [nm_on (by rw [x1]; decide), x1]
    show 1 + nmR (61 :: 34 :: E) = 1
    rw [nmR_no (by rw [x2]; decide)]
  have hat : attrO 3 (98 :: 61 :: 34 :: E) = .ok ⟨[98], l, 3⟩ ((escO true l).length + 4) := by
    unfold attrO nameO
    rw [n2, if_neg (by decide)]
    show Out.seq (.ok [98] 1) _ _ = _
    simp only [Out.seq, List.drop_one, List.tail_cons]
    show Out.on 1 (Out.on 0 (Out.on 1 (Out.on 0 (Out.map _ (valueO (34 :: E)))))) = _
    rw [hv]
    rfl
  have hA : stepA 2 (32 :: 98 :: 61 :: 34 :: E) = .ok ⟨[98], l, 3⟩ ((escO true l).length + 5) := by
    have hwh : wh (32 :: 98 :: 61 :: 34 :: E) = 1 := rfl
    unfold stepA
    rw [hwh, if_neg (by decide)]
    show (attrO 3 (98 :: 61 :: 34 :: E)).on 1 = _
    rw [hat]
    rfl
  have hdrop : (32 :: 98 :: 61 :: 34 :: E).drop ((escO true l).length + 5) = [47, 62] := by
    show E.drop ((escO true l).length + 1) = _
    exact hEd
  have hL : loop stopA stepA 2 (32 :: 98 :: 61 :: 34 :: E) = .ok [⟨[98], l, 3⟩] ((escO true l).length + 5) := by
    rw [loop_ok goodA (by rfl) hA, hdrop, loop_stop _ (by rfl)]
    simp [Out.pres]
  have hS : startO 0 1 (97 :: 32 :: 98 :: 61 :: 34 :: E) = .ok ⟨1, [97], [⟨[98], l, 3⟩], true, [], 0⟩ ((escO true l).length + 8) := by
    unfold startO nameO
    rw [n1, if_neg (by decide)]
    show Out.seq (.ok [97] 1) _ _ = _
    simp only [Out.seq, List.drop_one, List.tail_cons]
    rw [show 1 + 1 = 2 from rfl, hL]
    simp only [hdrop]
    show Out.ok _ (2 + ((escO true l).length + 5) + 1) = _
    rw [show 2 + ((escO true l).length + 5) + 1 = (escO true l).length + 8 by omega]
  have hD : stepD 0 (60 :: 97 :: 32 :: 98 :: 61 :: 34 :: E) = .ok (some ⟨1, [97], [⟨[98], l, 3⟩], true, [], 0⟩) ((escO true l).length + 9) := by
    unfold stepD
    rw [if_neg (by simp [Lib.hasPrefix, List.isPrefixOf]), if_neg (by simp [Lib.hasPrefix, List.isPrefixOf]), if_neg (by simp [Lib.hasPrefix, List.isPrefixOf]), if_pos (by simp [Lib.hasPrefix, List.isPrefixOf])]
    show ((startO 0 1 (97 :: 32 :: 98 :: 61 :: 34 :: E)).map some).on 1 = _
    rw [hS]
    rfl
  have hDoc : docO 0 (60 :: 97 :: 32 :: 98 :: 61 :: 34 :: E) = .ok [some ⟨1, [97], [⟨[98], l, 3⟩], true, [], 0⟩] ((escO true l).length + 9) := by
    unfold docO
    rw [loop_ok goodD (a := some ⟨1, [97], [⟨[98], l, 3⟩], true, [], 0⟩) (m := (escO true l).length + 9) (by rfl) (by rw [hD]; rfl), loop_stop _ (by
      rw [List.isEmpty_iff, ← List.length_eq_zero_iff, List.length_drop]
      simp only [List.length_cons]
      omega)]
    simp [Out.pres]
  have hM : marksO (60 :: 97 :: 32 :: 98 :: 61 :: 34 :: E) = .ok [⟨1, [97], [⟨[98], l, 3⟩], true, [], 0⟩] ((escO true l).length + 9) := by
    have hdc : declO (60 :: 97 :: 32 :: 98 :: 61 :: 34 :: E) = .ok () 0 := by
      unfold declO declB
      rfl
    unfold marksO
    rw [hdc]
    simp only [Out.fin, Out.seq, List.drop_zero]
    rw [hDoc]
    rfl
  have hsz : (tagL (escO true l)).length ≤ 65536 := by rw [e]; simp only [List.length_cons]; omega
  unfold resO
  rw [chk_good hgood hsz, e, hM]
end Go.Proofs.YtbokcihlbpeagaaGreatDoor
