/-
  What is proved: plain mathematics: what a reference by number is read as. Conditions: those in each statement.
-/
import Derived.Test.YtbokcihlbpeagaaGreatDoorNl
namespace Go.Proofs.YtbokcihlbpeagaaGreatDoor

/-- a number's digits to the base of ten -/
def decL (n : Nat) : List UInt8 := if n < 10 then [(48 + n).toUInt8] else decL (n / 10) ++ [(48 + n % 10).toUInt8]
termination_by n
decreasing_by omega
def hexD (n : Nat) : UInt8 := [48, 49, 50, 51, 52, 53, 54, 55, 56, 57, 97, 66, 99, 68, 101, 70].getD n 0
/-- and of sixteen, its signs great and small -/
def hexL (n : Nat) : List UInt8 := if n < 16 then [hexD n] else hexL (n / 16) ++ hexL (n % 16)
termination_by n
decreasing_by all_goals omega
theorem decL_lo {n : Nat} (h : n < 10) : decL n = [(48 + n).toUInt8] := by rw [decL, if_pos h]
theorem decL_hi {n : Nat} (h : ¬ n < 10) : decL n = decL (n / 10) ++ [(48 + n % 10).toUInt8] := by rw [decL, if_neg h]
theorem hexL_lo {n : Nat} (h : n < 16) : hexL n = [hexD n] := by rw [hexL, if_pos h]
theorem hexL_hi {n : Nat} (h : ¬ n < 16) : hexL n = hexL (n / 16) ++ hexL (n % 16) := by rw [hexL, if_neg h]
theorem dec_dig : ∀ n < 10, digv 10 (48 + n).toUInt8.toNat = some n ∧ 48 ≤ (48 + n).toUInt8.toNat ∧ (48 + n).toUInt8.toNat ≤ 57 := by decide +kernel
theorem hex_dig : ∀ n < 16, digv 16 (hexD n).toNat = some n ∧ 48 ≤ (hexD n).toNat ∧ (hexD n).toNat < 103 ∧ hexD n ≠ 59 := by decide +kernel
theorem numA_app (B : Nat) (y : List UInt8) : ∀ (x : List UInt8) (a : Nat), numA B a (x ++ y) = (numA B a x).bind fun m => numA B m y := by
  intro x
  induction x with
  | nil => intro a; rfl
  | cons c t ih =>
    intro a
    rw [List.cons_append, numA, numA]
    cases digv B c.toNat with
    | none => rfl
    | some d => exact ih _
theorem numA_dec : ∀ (m n : Nat), n ≤ m → numA 10 0 (decL n) = some n := by
  intro m
  induction m with
  | zero =>
    intro n h
    obtain rfl : n = 0 := by omega
    rw [decL_lo (by omega)]
    rfl
  | succ m ih =>
    intro n h
    by_cases h10 : n < 10
    · rw [decL_lo h10, numA, (dec_dig n h10).1]
      show numA 10 (0 * 10 + n) [] = _
      rw [numA]; simp
    · rw [decL_hi h10, numA_app, ih _ (by omega)]
      show numA 10 (n / 10) [_] = _
      rw [numA, (dec_dig (n % 10) (by omega)).1]
      show numA 10 (n / 10 * 10 + n % 10) [] = _
      rw [numA]
      congr 1
      omega
theorem numA_hex : ∀ (m n : Nat), n ≤ m → numA 16 0 (hexL n) = some n := by
  intro m
  induction m with
  | zero =>
    intro n h
    obtain rfl : n = 0 := by omega
    rw [hexL_lo (by omega)]
    rfl
  | succ m ih =>
    intro n h
    by_cases h16 : n < 16
    · rw [hexL_lo h16, numA, (hex_dig n h16).1]
      show numA 16 (0 * 16 + n) [] = _
      rw [numA]; simp
    · rw [hexL_hi h16, numA_app, ih _ (by omega), hexL_lo (by omega : n % 16 < 16)]
      show numA 16 (n / 16) [_] = _
      rw [numA, (hex_dig (n % 16) (by omega)).1]
      show numA 16 (n / 16 * 16 + n % 16) [] = _
      rw [numA]
      congr 1
      omega
theorem dec_len : ∀ (k n : Nat), n < 10 ^ (k + 1) → (decL n).length ≤ k + 1 := by
  intro k
  induction k with
  | zero => intro n h; rw [decL_lo (by simpa using h)]; simp
  | succ k ih =>
    intro n h
    by_cases h10 : n < 10
    · rw [decL_lo h10]; simp
    · rw [decL_hi h10, List.length_append]
      have := ih (n / 10) (by rw [Nat.pow_succ] at h; omega)
      simp; omega
theorem hex_len : ∀ (k n : Nat), n < 16 ^ (k + 1) → (hexL n).length ≤ k + 1 := by
  intro k
  induction k with
  | zero => intro n h; rw [hexL_lo (by simpa using h)]; simp
  | succ k ih =>
    intro n h
    by_cases h16 : n < 16
    · rw [hexL_lo h16]; simp
    · rw [hexL_hi h16, List.length_append, hexL_lo (by omega : n % 16 < 16)]
      have := ih (n / 16) (by rw [Nat.pow_succ] at h; omega)
      simp; omega
theorem dec_all : ∀ (m n : Nat), n ≤ m → (∀ b ∈ decL n, 48 ≤ b.toNat ∧ b.toNat ≤ 57) ∧ decL n ≠ [] := by
  intro m
  induction m with
  | zero =>
    intro n h
    obtain rfl : n = 0 := by omega
    rw [decL_lo (by omega)]; exact ⟨by intro b hb; obtain rfl := List.mem_singleton.1 hb; exact (dec_dig 0 (by omega)).2, by simp⟩
  | succ m ih =>
    intro n h
    by_cases h10 : n < 10
    · rw [decL_lo h10]; exact ⟨by intro b hb; obtain rfl := List.mem_singleton.1 hb; exact (dec_dig n h10).2, by simp⟩
    · rw [decL_hi h10]
      refine ⟨?_, by simp⟩
      intro b hb
      rcases List.mem_append.1 hb with hb | hb
      · exact (ih _ (by omega)).1 b hb
      · obtain rfl := List.mem_singleton.1 hb
        exact (dec_dig (n % 10) (by omega)).2
theorem hex_all : ∀ (m n : Nat), n ≤ m → (∀ b ∈ hexL n, 48 ≤ b.toNat ∧ b.toNat < 103 ∧ b ≠ 59) ∧ hexL n ≠ [] := by
  intro m
  induction m with
  | zero =>
    intro n h
    obtain rfl : n = 0 := by omega
    rw [hexL_lo (by omega)]; exact ⟨by intro b hb; obtain rfl := List.mem_singleton.1 hb; exact (hex_dig 0 (by omega)).2, by simp⟩
  | succ m ih =>
    intro n h
    by_cases h16 : n < 16
    · rw [hexL_lo h16]; exact ⟨by intro b hb; obtain rfl := List.mem_singleton.1 hb; exact (hex_dig n h16).2, by simp⟩
    · rw [hexL_hi h16]
      refine ⟨?_, by simp [(ih (n / 16) (by omega)).2]⟩
      intro b hb
      rcases List.mem_append.1 hb with hb | hb
      · exact (ih _ (by omega)).1 b hb
      · exact (ih (n % 16) (by omega)).1 b hb
/-- the digits with noughts ahead -/
def digL (k n : Nat) : List UInt8 := List.replicate k 48 ++ decL n
theorem digL_succ (k n : Nat) : digL (k + 1) n = 48 :: digL k n := rfl
theorem numA_dig (n : Nat) : ∀ k, numA 10 0 (digL k n) = some n := by
  intro k
  induction k with
  | zero => exact numA_dec n n (Nat.le_refl _)
  | succ k ih => rw [digL_succ]; exact ih
theorem dig_all (k n : Nat) : ∀ b ∈ digL k n, 48 ≤ b.toNat ∧ b.toNat ≤ 57 := by
  intro b hb
  rcases List.mem_append.1 hb with hb | hb
  · obtain rfl := (List.mem_replicate.1 hb).2
    decide
  · exact (dec_all n n (Nat.le_refl _)).1 b hb
theorem dig_ne (k n : Nat) : digL k n ≠ [] := by
  unfold digL
  simp [(dec_all n n (Nat.le_refl _)).2]
/-- what the first reference means -/
theorem mean_dec (k n : Nat) : mean (38 :: 35 :: digL k n) = if 8 < (digL k n).length then [] else if isC (n : Int) then put (n : Int) else [] := by
  have hne := dig_ne k n
  have hh : Lib.hasPrefix (38 :: 35 :: digL k n) [38, 35, 120] = false := by
    cases hd : digL k n with
    | nil => exact absurd hd hne
    | cons c t =>
      have := dig_all k n c (by rw [hd]; simp)
      have hc : c ≠ 120 := by rintro rfl; exact absurd this (by decide)
      show ([38, 35, 120] : List UInt8).isPrefixOf (38 :: 35 :: c :: t) = false
      simp [List.isPrefixOf, Ne.symm hc]
  have hp : Lib.hasPrefix (38 :: 35 :: digL k n) [38, 35] = true := by
    show ([38, 35] : List UInt8).isPrefixOf (38 :: 35 :: digL k n) = true
    simp [List.isPrefixOf]
  unfold mean
  rw [if_neg (by simp), if_neg (by simp), if_neg (by simp), if_neg (by simp), if_neg (by simp), if_neg (by rw [hh]; simp), if_pos hp]
  show meanN 10 (digL k n) = _
  unfold meanN
  by_cases h8 : 8 < (digL k n).length
  · rw [if_pos (.inr h8), if_pos h8]
  · rw [if_neg (by rintro (e | e); exact hne e; exact h8 e), if_neg h8, numA_dig]
theorem mean_hex {n : Nat} (h : n < 4294967296) : mean (38 :: 35 :: 120 :: hexL n) = if isC (n : Int) then put (n : Int) else [] := by
  have hne := (hex_all n n (Nat.le_refl _)).2
  have hlen := hex_len 7 n (by simpa using h)
  have hp : Lib.hasPrefix (38 :: 35 :: 120 :: hexL n) [38, 35, 120] = true := by
    show ([38, 35, 120] : List UInt8).isPrefixOf (38 :: 35 :: 120 :: hexL n) = true
    simp [List.isPrefixOf]
  unfold mean
  rw [if_neg (by simp), if_neg (by simp), if_neg (by simp), if_neg (by simp), if_neg (by simp), if_pos hp]
  show meanN 16 (hexL n) = _
  unfold meanN
  rw [if_neg (by rintro (e | e); exact hne e; omega), numA_hex n n (Nat.le_refl _)]
/-- a reference that is none -/
theorem refO_no {x : List UInt8} (t : List UInt8) (h : (59 : UInt8) ∉ x) (hm : mean x = []) : refO (x ++ 59 :: t) = .bad 0 83 := by
  unfold refO
  rw [index_semi h]
  have e : (x ++ 59 :: t).take x.length = x := by simp
  simp only [Int.toNat_natCast, e, hm]
  rw [if_neg (by simp)]

/-! ### the first document -/
theorem semi_dig (k n : Nat) : (59 : UInt8) ∉ 38 :: 35 :: digL k n := by
  intro h
  simp only [List.mem_cons] at h
  rcases h with h | h | h
  · cases h
  · cases h
  · exact absurd (dig_all k n 59 h) (by decide)
def docA (k n : Nat) : List UInt8 := 97 :: (38 :: 35 :: digL k n ++ 59 :: [])
theorem docA_good (k n : Nat) : good (docA k n) := by
  unfold docA
  refine good_lit _ ?_
  intro b hb
  simp only [List.mem_cons, List.mem_append, List.not_mem_nil, or_false] at hb
  rcases hb with rfl | (rfl | rfl | hb) | rfl
  · decide
  · decide
  · decide
  · have := dig_all k n b hb; omega
  · decide
theorem res_docA {L : List UInt8} (hg : good L) (hl : L.length ≤ 65536) (hh : ∃ t, L = 97 :: t) : resO L = match textO L with
    | .ok t n => if n = L.length then .inl [⟨3, [], [], false, t, 0⟩] else resO L
    | .bad d c => .inr (d, c)
    | .un => resO L := by
  obtain ⟨t, rfl⟩ := hh
  have hs : stepD 0 (97 :: t) = (textO (97 :: t)).map fun x => some ⟨3, [], [], false, x, 0⟩ := by
    unfold stepD
    rw [if_neg (by rw [pre_no (by decide)]; simp), if_neg (by rw [pre_no (by decide)]; simp), if_neg (by rw [pre_no (by decide)]; simp), if_neg (by rw [pre_no (by decide)]; simp)]
  have hdc : declO (97 :: t) = .ok () 0 := by
    unfold declO declB
    rw [pre_no (by decide)]
    rfl
  cases hq : textO (97 :: t) with
  | un => rfl
  | bad d c =>
    have hd : docO 0 (97 :: t) = .bad d c := by
      unfold docO
      exact loop_bad rfl (by rw [hs, hq]; rfl)
    have hm : marksO (97 :: t) = .bad d c := by
      unfold marksO
      rw [hdc]
      simp only [Out.fin, Out.seq, List.drop_zero]
      rw [hd]; rfl
    unfold resO
    rw [chk_good hg hl, hm]
  | ok x n =>
    by_cases hn : n = (97 :: t).length
    · simp only [if_pos hn]
      have hd : docO 0 (97 :: t) = .ok [some ⟨3, [], [], false, x, 0⟩] n := by
        unfold docO
        rw [loop_ok goodD (a := some ⟨3, [], [], false, x, 0⟩) (m := n) rfl (by rw [hs, hq]; rfl), loop_stop _ (by rw [hn]; simp)]
        simp [Out.pres]
      have hm : marksO (97 :: t) = .ok [⟨3, [], [], false, x, 0⟩] n := by
        unfold marksO
        rw [hdc]
        simp only [Out.fin, Out.seq, List.drop_zero]
        rw [hd]; rfl
      unfold resO
      rw [chk_good hg hl, hm]
    · simp only [if_neg hn]
theorem resA_ok {k n : Nat} (h8 : (digL k n).length ≤ 8) (hc : isC (n : Int)) : resO (docA k n) = .inl [⟨3, [], [], false, 97 :: put (n : Int), 0⟩] := by
  have hm : mean (38 :: 35 :: digL k n) = put (n : Int) := by rw [mean_dec, if_neg (by omega), if_pos hc]
  have hr := refO_ent [] (semi_dig k n) hm (put_ne.2 (isC_isR hc))
  have h1 : RunB false 60 0 (docA k n) 1 [97] := (RunB.start false 60 0 (docA k n)).on (m := 1) (x := [97]) rfl rfl
  have h2 := h1.on (m := (38 :: 35 :: digL k n).length + 1) (x := put (n : Int)) rfl (by
    show stpc false (38 :: 35 :: digL k n ++ 59 :: []) = _
    show pieceO (38 :: 35 :: digL k n ++ 59 :: []) = _
    unfold pieceO
    rw [if_pos (by rfl), hr])
  have hlen : (docA k n).length = 1 + ((38 :: 35 :: digL k n).length + 1) := by unfold docA; simp; omega
  have h3 := h2.done (by rw [← hlen, List.drop_length]; rfl)
  have hsz : (docA k n).length ≤ 65536 := by rw [hlen]; simp; omega
  rw [res_docA (docA_good k n) hsz ⟨_, rfl⟩, textO_whole, h3]
  simp only [hlen, if_true]
  rfl
theorem resA_no {k n : Nat} (hk : (digL k n).length ≤ 1000) (h : 8 < (digL k n).length ∨ ¬ isC (n : Int)) : resO (docA k n) = .inr (1, 83) := by
  have hm : mean (38 :: 35 :: digL k n) = [] := by
    rw [mean_dec]
    by_cases h8 : 8 < (digL k n).length
    · rw [if_pos h8]
    · rw [if_neg h8, if_neg (h.resolve_left h8)]
  have hr := refO_no [] (semi_dig k n) hm
  have h1 : RunB false 60 0 (docA k n) 1 [97] := (RunB.start false 60 0 (docA k n)).on (m := 1) (x := [97]) rfl rfl
  have h3 := h1.bad (d := 0) (c := 83) rfl (by
    show pieceO (38 :: 35 :: digL k n ++ 59 :: []) = _
    unfold pieceO
    rw [if_pos (by rfl), hr])
  have hlen : (docA k n).length = 1 + ((38 :: 35 :: digL k n).length + 1) := by unfold docA; simp; omega
  have hsz : (docA k n).length ≤ 65536 := by rw [hlen]; simp; omega
  rw [res_docA (docA_good k n) hsz ⟨_, rfl⟩, textO_whole, h3]

/-! ### the second document: an attribute's value between the same signs -/
def tagQ (x : List UInt8) : List UInt8 := 60 :: 97 :: 32 :: 98 :: 61 :: 39 :: (x ++ [39, 47, 62])
theorem tag_step (E : List UInt8) : nm (97 :: 32 :: 98 :: 61 :: 39 :: E) = 1 ∧ stepA 2 (32 :: 98 :: 61 :: 39 :: E) = Out.on 1 (Out.on 1 (Out.on 0 (Out.on 1 (Out.on 0 (Out.map (fun v => (⟨[98], v, 3⟩ : At3)) (valueO (39 :: E))))))) := by
  have n1 : nm (97 :: 32 :: 98 :: 61 :: 39 :: E) = 1 := by
    have x1 := nx_asc (b := 97) (by decide) (32 :: 98 :: 61 :: 39 :: E)
    have x2 := nx_asc (b := 32) (by decide) (98 :: 61 :: 39 :: E)
    rw [nm_on (by rw [x1]; decide), x1]
    show 1 + nmR (32 :: 98 :: 61 :: 39 :: E) = 1
    rw [nmR_no (by rw [x2]; decide)]
  have n2 : nm (98 :: 61 :: 39 :: E) = 1 := by
    have x1 := nx_asc (b := 98) (by decide) (61 :: 39 :: E)
    have x2 := nx_asc (b := 61) (by decide) (39 :: E)
    rw [nm_on (by rw [x1]; decide), x1]
    show 1 + nmR (61 :: 39 :: E) = 1
    rw [nmR_no (by rw [x2]; decide)]
  have hat : attrO 3 (98 :: 61 :: 39 :: E) = Out.on 1 (Out.on 0 (Out.on 1 (Out.on 0 (Out.map (fun v => (⟨[98], v, 3⟩ : At3)) (valueO (39 :: E)))))) := by
    unfold attrO nameO
    rw [n2, if_neg (by decide)]
    rfl
  refine ⟨n1, ?_⟩
  have hwh : wh (32 :: 98 :: 61 :: 39 :: E) = 1 := rfl
  unfold stepA
  rw [hwh, if_neg (by decide)]
  show (attrO 3 (98 :: 61 :: 39 :: E)).on 1 = _
  rw [hat]
theorem tag_bad {x : List UInt8} {d : Nat} {c : Int} (ho : valueO (39 :: (x ++ [39, 47, 62])) = .bad d c) :
    startO 0 1 (97 :: 32 :: 98 :: 61 :: 39 :: (x ++ [39, 47, 62])) = .bad (d + 4) c := by
  obtain ⟨n1, hA⟩ := tag_step (x ++ [39, 47, 62])
  rw [ho] at hA
  have hL : loop stopA stepA 2 (32 :: 98 :: 61 :: 39 :: (x ++ [39, 47, 62])) = .bad (d + 3) c := by
    rw [loop_bad (d := d + 3) (c := c) (by rfl) (by rw [hA]; rfl)]
  unfold startO nameO
  rw [n1, if_neg (by decide)]
  show Out.seq (.ok [97] 1) _ _ = _
  simp only [Out.seq, List.drop_one, List.tail_cons]
  rw [show 1 + 1 = 2 from rfl, hL]
  rfl
theorem tag_ok {x l : List UInt8} (ho : valueO (39 :: (x ++ [39, 47, 62])) = .ok l (x.length + 2)) :
    startO 0 1 (97 :: 32 :: 98 :: 61 :: 39 :: (x ++ [39, 47, 62])) = .ok ⟨1, [97], [⟨[98], l, 3⟩], true, [], 0⟩ (x.length + 8) := by
  obtain ⟨n1, hA⟩ := tag_step (x ++ [39, 47, 62])
  rw [ho] at hA
  have hdrop : (32 :: 98 :: 61 :: 39 :: (x ++ [39, 47, 62])).drop (x.length + 5) = [47, 62] := by
    show (x ++ [39, 47, 62]).drop (x.length + 1) = _
    rw [List.drop_append]; simp
  have hL : loop stopA stepA 2 (32 :: 98 :: 61 :: 39 :: (x ++ [39, 47, 62])) = .ok [⟨[98], l, 3⟩] (x.length + 5) := by
    rw [loop_ok goodA (a := ⟨[98], l, 3⟩) (m := x.length + 5) (by rfl) (by rw [hA]; rfl), hdrop, loop_stop _ (by rfl)]
    simp [Out.pres]
  unfold startO nameO
  rw [n1, if_neg (by decide)]
  show Out.seq (.ok [97] 1) _ _ = _
  simp only [Out.seq, List.drop_one, List.tail_cons]
  rw [show 1 + 1 = 2 from rfl, hL]
  simp only [hdrop]
  show Out.ok _ (2 + (x.length + 5) + 1) = _
  rw [show 2 + (x.length + 5) + 1 = x.length + 8 by omega]
theorem stepQ (x : List UInt8) : stepD 0 (tagQ x) = ((startO 0 1 (97 :: 32 :: 98 :: 61 :: 39 :: (x ++ [39, 47, 62]))).map some).on 1 := by
  unfold stepD tagQ
  rw [if_neg (by simp [Lib.hasPrefix, List.isPrefixOf]), if_neg (by simp [Lib.hasPrefix, List.isPrefixOf]), if_neg (by simp [Lib.hasPrefix, List.isPrefixOf]), if_pos (by simp [Lib.hasPrefix, List.isPrefixOf])]
  rfl
theorem declQ (x : List UInt8) : declO (tagQ x) = .ok () 0 := by unfold declO declB; rfl
theorem resQ_ok {x l : List UInt8} (hg : good (tagQ x)) (hl : (tagQ x).length ≤ 65536) (hw : wholeO true 39 (x ++ [39, 47, 62]) = .ok l x.length) :
    resO (tagQ x) = .inl [⟨1, [97], [⟨[98], l, 3⟩], true, [], 0⟩] := by
  have hv : valueO (39 :: (x ++ [39, 47, 62])) = .ok l (x.length + 2) := by
    rw [valueO_whole, if_neg (by show ¬ ((39 : Nat) ≠ 34 ∧ (39 : Nat) ≠ 39); omega)]
    show ((wholeO true 39 (x ++ [39, 47, 62])).more 1).on 1 = _
    rw [hw]; rfl
  have hS := tag_ok hv
  have hD : stepD 0 (tagQ x) = .ok (some ⟨1, [97], [⟨[98], l, 3⟩], true, [], 0⟩) (x.length + 9) := by rw [stepQ, hS]; rfl
  have htl : (tagQ x).length = x.length + 9 := by unfold tagQ; simp
  have hDoc : docO 0 (tagQ x) = .ok [some ⟨1, [97], [⟨[98], l, 3⟩], true, [], 0⟩] (x.length + 9) := by
    unfold docO
    rw [loop_ok goodD (a := some ⟨1, [97], [⟨[98], l, 3⟩], true, [], 0⟩) (m := x.length + 9) (by rfl) (by rw [hD]; rfl), ← htl, loop_stop _ (by simp)]
    simp [Out.pres]
  have hM : marksO (tagQ x) = .ok [⟨1, [97], [⟨[98], l, 3⟩], true, [], 0⟩] (x.length + 9) := by
    unfold marksO
    rw [declQ]
    simp only [Out.fin, Out.seq, List.drop_zero]
    rw [hDoc]; rfl
  unfold resO
  rw [chk_good hg hl, hM]
theorem resQ_bad {x : List UInt8} {d : Nat} {c : Int} (hg : good (tagQ x)) (hl : (tagQ x).length ≤ 65536) (hw : wholeO true 39 (x ++ [39, 47, 62]) = .bad d c) :
    resO (tagQ x) = .inr (d + 6, c) := by
  have hv : valueO (39 :: (x ++ [39, 47, 62])) = .bad (d + 1) c := by
    rw [valueO_whole, if_neg (by show ¬ ((39 : Nat) ≠ 34 ∧ (39 : Nat) ≠ 39); omega)]
    show ((wholeO true 39 (x ++ [39, 47, 62])).more 1).on 1 = _
    rw [hw]; rfl
  have hS := tag_bad hv
  have hD : stepD 0 (tagQ x) = .bad (d + 6) c := by rw [stepQ, hS]; rfl
  have hDoc : docO 0 (tagQ x) = .bad (d + 6) c := by
    unfold docO
    exact loop_bad (by rfl) (by rw [hD]; rfl)
  have hM : marksO (tagQ x) = .bad (d + 6) c := by
    unfold marksO
    rw [declQ]
    simp only [Out.fin, Out.seq, List.drop_zero]
    rw [hDoc]; rfl
  unfold resO
  rw [chk_good hg hl, hM]
def docB (n : Nat) : List UInt8 := tagQ (38 :: 35 :: 120 :: hexL n ++ [59])
theorem semi_hex (n : Nat) : (59 : UInt8) ∉ 38 :: 35 :: 120 :: hexL n := by
  intro h
  simp only [List.mem_cons] at h
  rcases h with h | h | h | h
  · cases h
  · cases h
  · cases h
  · exact ((hex_all n n (Nat.le_refl _)).1 59 h).2.2 rfl
theorem docB_good (n : Nat) : good (docB n) := by
  unfold docB tagQ
  refine good_lit _ ?_
  intro b hb
  simp only [List.mem_cons, List.mem_append, List.not_mem_nil, or_false] at hb
  rcases hb with rfl | rfl | rfl | rfl | rfl | rfl | ((rfl | rfl | rfl | hb) | rfl) | rfl | rfl | rfl
  all_goals first
    | decide
    | (have := (hex_all n n (Nat.le_refl _)).1 b hb; omega)
theorem docB_len {n : Nat} (h : n < 4294967296) : (docB n).length ≤ 65536 := by
  have := hex_len 7 n (by simpa using h)
  unfold docB tagQ
  simp; omega
theorem stpc_ref (t : List UInt8) : stpc true (38 :: t) = refO (38 :: t) := by
  show stepV (38 :: t) = _
  unfold stepV
  rw [if_neg (by show ¬ ((38 : Nat) = 60 ∨ (38 : Nat) = 0); omega), if_neg (by show ¬ isW 38 = true; decide)]
  unfold pieceO
  rw [if_pos (by rfl)]
theorem resB_ok {n : Nat} (h : n < 4294967296) (hc : isC (n : Int)) : resO (docB n) = .inl [⟨1, [97], [⟨[98], put (n : Int), 3⟩], true, [], 0⟩] := by
  refine resQ_ok (docB_good n) (docB_len h) ?_
  have hm : mean (38 :: 35 :: 120 :: hexL n) = put (n : Int) := by rw [mean_hex h, if_pos hc]
  have hr := refO_ent [39, 47, 62] (semi_hex n) hm (put_ne.2 (isC_isR hc))
  have e : (38 :: 35 :: 120 :: hexL n ++ [59]) ++ [39, 47, 62] = 38 :: 35 :: 120 :: hexL n ++ 59 :: [39, 47, 62] := by simp
  have hl : (38 :: 35 :: 120 :: hexL n ++ [59]).length = 0 + ((38 :: 35 :: 120 :: hexL n).length + 1) := by simp
  rw [e, hl]
  have h1 := (RunB.start true 39 0 (38 :: 35 :: 120 :: hexL n ++ 59 :: [39, 47, 62])).on (m := (38 :: 35 :: 120 :: hexL n).length + 1) (x := put (n : Int)) rfl (by
    show stpc true (38 :: (35 :: 120 :: hexL n ++ 59 :: [39, 47, 62])) = _
    rw [stpc_ref]
    exact hr)
  have h2 := h1.done (by
    rw [Nat.zero_add, show 38 :: 35 :: 120 :: hexL n ++ 59 :: [39, 47, 62] = (38 :: 35 :: 120 :: hexL n ++ [59]) ++ [39, 47, 62] by simp, List.drop_left' (by simp)]
    rfl)
  rw [h2]
  rfl
theorem resB_no {n : Nat} (h : n < 4294967296) (hc : ¬ isC (n : Int)) : resO (docB n) = .inr (6, 83) := by
  have hm : mean (38 :: 35 :: 120 :: hexL n) = [] := by rw [mean_hex h, if_neg hc]
  have hr := refO_no [39, 47, 62] (semi_hex n) hm
  have e : (38 :: 35 :: 120 :: hexL n ++ [59]) ++ [39, 47, 62] = 38 :: 35 :: 120 :: hexL n ++ 59 :: [39, 47, 62] := by simp
  have h1 := (RunB.start true 39 0 (38 :: 35 :: 120 :: hexL n ++ 59 :: [39, 47, 62])).bad (d := 0) (c := 83) rfl (by
    show stpc true (38 :: (35 :: 120 :: hexL n ++ 59 :: [39, 47, 62])) = _
    rw [stpc_ref]
    exact hr)
  exact resQ_bad (docB_good n) (docB_len h) (by rw [e, h1])
end Go.Proofs.YtbokcihlbpeagaaGreatDoor
