/-
  What is proved: plain mathematics of values: which may be (mayV), their texts (prV), which value a text means (parV: the value whose text it is, or none), names (nameB), texts of characters (chsB). No condition but those in each statement.
-/
import Derived.Test.YtnmailhlncchmaaDoorUm
import Derived.Test.YtnmailhlncchmaaDoorUa
import Derived.Test.YtnmailhlncchmaaDoorUc
import Derived.Lib.ParseIntBCases
import Derived.Lib.ItoaNum
namespace Go.Proofs.YtnmailhlncchmaaDoor

/-- what stands from a place on -/
def tl (s : ByteArray) (k : Nat) : List UInt8 := s.data.toList.drop k
theorem tl_zero (s : ByteArray) : tl s 0 = s.data.toList := rfl
theorem tl_length (s : ByteArray) (k : Nat) : (tl s k).length = s.size - k := by unfold tl; rw [List.length_drop, size_toList]
theorem tl_drop (s : ByteArray) (k n : Nat) : (tl s k).drop n = tl s (k + n) := by unfold tl; rw [List.drop_drop]
theorem tl_nil {s : ByteArray} {k : Nat} (h : k ≤ s.size) : tl s k = [] ↔ k = s.size := by
  rw [← List.length_eq_zero_iff, tl_length]; omega
theorem tl_cons (s : ByteArray) (k : Nat) (h : k < s.size) : tl s k = s[k] :: tl s (k + 1) := nxAt_cons s k h
theorem ba_ext {a b : ByteArray} (h : a.data.toList = b.data.toList) : a = b := by
  cases a; cases b; congr 1; exact Array.toList_inj.1 h
theorem ba_nil {a : ByteArray} : a.size = 0 ↔ a = ⟨#[]⟩ := by
  constructor
  · intro h
    refine ba_ext ?_
    exact List.length_eq_zero_iff.1 (by rw [size_toList]; exact h)
  · rintro rfl; rfl

/-! ### characters -/
def chsF : Nat → List UInt8 → Bool
  | 0, _ => true
  | m + 1, l => if l = [] then true else if isC (nx l).1 then chsF m (l.drop (nx l).2) else false
/-- is a text characters alone? -/
def chsB (l : List UInt8) : Bool := chsF (l.length + 1) l
theorem nx_c {l : List UInt8} (h : isC (nx l).1) : 1 ≤ (nx l).2 ∧ (nx l).2 ≤ l.length := by
  rcases nx_read l with h0 | ⟨r, hr, he, _, hl⟩
  · rw [h0] at h; exact absurd h (by decide)
  · rw [he]; exact ⟨(sz_pos hr).1, hl⟩
theorem chsF_more (m : Nat) : ∀ (n : Nat) (l : List UInt8), l.length < m → l.length < n → chsF m l = chsF n l := by
  induction m with
  | zero => intro n l h; omega
  | succ m ih =>
    intro n l hm hn
    cases n with
    | zero => omega
    | succ n =>
      simp only [chsF]
      by_cases h0 : l = []
      · rw [if_pos h0, if_pos h0]
      · rw [if_neg h0, if_neg h0]
        by_cases h : isC (nx l).1
        · have := nx_c h
          rw [if_pos h, if_pos h, ih n _ (by rw [List.length_drop]; omega) (by rw [List.length_drop]; omega)]
        · rw [if_neg h, if_neg h]
theorem chsB_nil : chsB [] = true := rfl
theorem chsB_on {l : List UInt8} (h0 : l ≠ []) (h : isC (nx l).1) : chsB l = chsB (l.drop (nx l).2) := by
  have := nx_c h
  unfold chsB
  rw [chsF, if_neg h0, if_pos h, chsF_more _ ((l.drop (nx l).2).length + 1) _ (by rw [List.length_drop]; omega) (by omega)]
theorem chsB_no {l : List UInt8} (h0 : l ≠ []) (h : ¬ isC (nx l).1) : chsB l = false := by
  unfold chsB; rw [chsF, if_neg h0, if_neg h]

/-! ### names -/
def leB (c : UInt8) : Bool := decide (65 ≤ c.toNat ∧ c.toNat ≤ 90 ∨ 97 ≤ c.toNat ∧ c.toNat ≤ 122 ∨ c.toNat = 95)
def fuB (c : UInt8) : Bool := decide (48 ≤ c.toNat ∧ c.toNat ≤ 57 ∨ c.toNat = 45)
/-- may the bytes stand in a name, the first one as its first? -/
def nmF : Bool → List UInt8 → Bool
  | _, [] => true
  | f, c :: r => (leB c || (!f && fuB c)) && nmF false r
def nameB (l : List UInt8) : Bool := decide (1 ≤ l.length) && (decide (l.length ≤ 32) && nmF true l)

/-! ### values -/
structure Val where
  k : Int
  n : Int
  s : ByteArray
def Val.cs (v : Val) : Array Value := #[.int .i64 v.k, .int .i64 v.n, .string v.s]
def Val.v (v : Val) : Value := .agg #[.int .i64 v.k, .int .i64 v.n, .string v.s]
theorem Val.ext' {v w : Val} (h1 : v.k = w.k) (h2 : v.n = w.n) (h3 : v.s = w.s) : v = w := by cases v; cases w; congr
def Val.eqB (v w : Val) : Bool := decide (v.k = w.k) && (decide (v.n = w.n) && decide (v.s.data.toList = w.s.data.toList))
theorem Val.eqB_iff {v w : Val} : v.eqB w = true ↔ v = w := by
  unfold Val.eqB
  simp only [Bool.and_eq_true, decide_eq_true_eq]
  constructor
  · rintro ⟨h1, h2, h3⟩; exact Val.ext' h1 h2 (ba_ext h3)
  · rintro rfl; exact ⟨rfl, rfl, rfl⟩
def mayV (v : Val) : Bool :=
  if v.k = 1 then decide (v.s.size = 0) else if v.k = 2 then decide (v.s.size = 0) && decide (v.n = 0 ∨ v.n = 1)
  else if v.k = 3 then decide (v.n = 0) && (decide (v.s.size ≤ 64) && chsB v.s.data.toList) else false
/-- with what stands ahead of quotes and escapes -/
def escV : List UInt8 → List UInt8
  | [] => []
  | c :: r => if c.toNat = 34 ∨ c.toNat = 92 then 92 :: c :: escV r else c :: escV r
def trueL : List UInt8 := [116, 114, 117, 101]
def falseL : List UInt8 := [102, 97, 108, 115, 101]
/-- the text of a value that may be -/
def txV (v : Val) : List UInt8 := if v.k = 1 then Lib.itoa v.n else if v.k = 2 then (if v.n = 1 then trueL else falseL) else 34 :: (escV v.s.data.toList ++ [34])
def prV (v : Val) : List UInt8 := if mayV v then txV v else []
/-- without what stands ahead of others -/
def uneV : List UInt8 → List UInt8
  | [] => []
  | [c] => [c]
  | c :: d :: r => if c.toNat = 92 then d :: uneV r else c :: uneV (d :: r)
theorem uneV_plain {c : UInt8} (h : c.toNat ≠ 92) (l : List UInt8) : uneV (c :: l) = c :: uneV l := by
  cases l with
  | nil => rfl
  | cons d r => simp only [uneV]; rw [if_neg h]
theorem uneV_esc (d : UInt8) (r : List UInt8) : uneV (92 :: d :: r) = d :: uneV r := by
  simp only [uneV]; rw [if_pos (by decide)]
theorem une_esc : ∀ l, uneV (escV l) = l
  | [] => rfl
  | c :: r => by
    simp only [escV]
    by_cases h : c.toNat = 34 ∨ c.toNat = 92
    · rw [if_pos h, uneV_esc, une_esc r]
    · rw [if_neg h, uneV_plain (fun e => h (.inr e)), une_esc r]
theorem esc_len : ∀ l, (escV l).length ≤ 2 * l.length ∧ l.length ≤ (escV l).length
  | [] => by simp [escV]
  | c :: r => by
    have := esc_len r
    simp only [escV]
    split <;> simp only [List.length_cons] <;> omega
theorem escV_append : ∀ a b, escV (a ++ b) = escV a ++ escV b
  | [], b => rfl
  | c :: r, b => by
    have := escV_append r b
    simp only [List.cons_append, escV]
    split <;> simp [this]

/-! ### digits -/
theorem digits_all (u : Nat) : ∀ c ∈ Lib.decDigits u, 48 ≤ c.toNat ∧ c.toNat ≤ 57 := by
  induction u using Nat.strongRecOn with
  | _ u ih =>
    intro c hc
    rw [Lib.decDigits] at hc
    by_cases h : u < 10
    · rw [dif_pos h] at hc
      simp only [List.mem_singleton] at hc
      subst hc
      simp only [UInt8.toNat_ofNat']
      omega
    · rw [dif_neg h] at hc
      rcases List.mem_append.1 hc with h1 | h1
      · exact ih (u / 10) (by omega) c h1
      · simp only [List.mem_singleton] at h1
        subst h1
        simp only [UInt8.toNat_ofNat']
        omega
theorem digits_ne (u : Nat) : Lib.decDigits u ≠ [] := by
  rw [Lib.decDigits]
  split <;> simp
theorem digits_len (u k : Nat) (h : u < 10 ^ (k + 1)) : (Lib.decDigits u).length ≤ k + 1 := by
  induction k generalizing u with
  | zero => rw [Lib.decDigits, dif_pos (by simpa using h)]; simp
  | succ k ih =>
    by_cases h1 : u < 10
    · rw [Lib.decDigits, dif_pos h1]; simp
    · rw [Lib.decDigits, dif_neg h1]
      have := ih (u / 10) (by rw [Nat.pow_succ] at h; omega)
      simp only [List.length_append, List.length_cons, List.length_nil]
      omega
/-- what digits say -/
def dval (l : List UInt8) : Nat := l.foldl (fun a c => a * 10 + (c.toNat - 48)) 0
theorem dval_snoc (l : List UInt8) (c : UInt8) : dval (l ++ [c]) = dval l * 10 + (c.toNat - 48) := by simp [dval]
theorem dval_digits (u : Nat) : dval (Lib.decDigits u) = u := by
  induction u using Nat.strongRecOn with
  | _ u ih =>
    rw [Lib.decDigits]
    by_cases h : u < 10
    · rw [dif_pos h]
      simp only [dval, List.foldl_cons, List.foldl_nil, UInt8.toNat_ofNat']
      omega
    · rw [dif_neg h, dval_snoc, ih (u / 10) (by omega)]
      simp only [UInt8.toNat_ofNat']
      omega
theorem uintM_snoc (M : Nat) (hM : M ≤ 18446744073709551615) (c : UInt8) (h1 : 48 ≤ c.toNat) (h2 : c.toNat ≤ 57) : ∀ (l : List UInt8) (a u : Nat), Lib.parseUintM M a l = .ok u → u * 10 + (c.toNat - 48) ≤ M → Lib.parseUintM M a (l ++ [c]) = .ok (u * 10 + (c.toNat - 48))
  | [], a, u, h, hu => by
    simp only [Lib.parseUintM] at h
    injection h with h
    subst h
    simp only [List.nil_append, Lib.parseUintM]
    rw [if_pos ⟨h1, h2⟩, if_neg (by omega), if_neg (by omega)]
  | d :: r, a, u, h, hu => by
    simp only [List.cons_append, Lib.parseUintM] at h ⊢
    split at h
    · split at h
      · cases h
      · split at h
        · cases h
        · rename_i g1 g2 g3
          rw [if_pos g1, if_neg g2, if_neg g3]
          exact uintM_snoc M hM c h1 h2 r _ u h hu
    · cases h
theorem uintM_digits (M : Nat) (hM : M ≤ 18446744073709551615) (u : Nat) : u ≤ M → Lib.parseUintM M 0 (Lib.decDigits u) = .ok u := by
  induction u using Nat.strongRecOn with
  | _ u ih =>
    intro hu
    rw [Lib.decDigits]
    by_cases h : u < 10
    · rw [dif_pos h]
      have e : (UInt8.ofNat (48 + u)).toNat = 48 + u := by simp only [UInt8.toNat_ofNat']; omega
      simp only [Lib.parseUintM, e]
      rw [if_pos (by omega), if_neg (by omega), if_neg (by omega)]
      simp
    · rw [dif_neg h]
      have e : (UInt8.ofNat (48 + u % 10)).toNat = 48 + u % 10 := by simp only [UInt8.toNat_ofNat']; omega
      have := uintM_snoc M hM (UInt8.ofNat (48 + u % 10)) (by omega) (by omega) _ 0 (u / 10) (ih (u / 10) (by omega) (by omega)) (by rw [e]; omega)
      rw [this, e]
      congr 1
      omega
/-- a number of 64 bits -/
def In64 (n : Int) : Prop := -9223372036854775808 ≤ n ∧ n ≤ 9223372036854775807
theorem pow64 : (2 : Nat) ^ 64 - 1 = 18446744073709551615 := by decide
theorem pow63 : (2 : Nat) ^ (64 - 1) = 9223372036854775808 := by decide
theorem parse_itoa {n : Int} (h : In64 n) : Lib.parseIntB 64 (Lib.itoa n) = .ok n := by
  unfold In64 at h
  unfold Lib.itoa
  by_cases h0 : n < 0
  · rw [if_pos h0, Lib.parseIntB_minus]
    unfold Lib.parseUintB
    rw [if_neg (digits_ne _), pow64, uintM_digits _ (Nat.le_refl _) _ (by omega)]
    simp only [Lib.signedC, pow63]
    rw [if_neg (by omega)]
    congr 1; omega
  · rw [if_neg h0]
    cases hd : Lib.decDigits n.toNat with
    | nil => exact absurd hd (digits_ne _)
    | cons c r =>
      have hc := digits_all n.toNat c (by rw [hd]; simp)
      rw [Lib.parseIntB_plain _ _ _ (by omega) (by omega), ← hd]
      unfold Lib.parseUintB
      rw [if_neg (digits_ne _), pow64, uintM_digits _ (Nat.le_refl _) _ (by omega)]
      simp only [Lib.signlessC, pow63]
      rw [if_neg (by omega)]
      congr 1; omega
theorem itoa_head {n : Int} : ∃ c r, Lib.itoa n = c :: r ∧ (c.toNat = 45 ∨ 48 ≤ c.toNat ∧ c.toNat ≤ 57) := by
  unfold Lib.itoa
  split
  · exact ⟨45, _, rfl, .inl rfl⟩
  · cases hd : Lib.decDigits n.toNat with
    | nil => exact absurd hd (digits_ne _)
    | cons c r => exact ⟨c, r, rfl, .inr (digits_all n.toNat c (by rw [hd]; simp))⟩
theorem itoa_len {n : Int} (h : In64 n) : (Lib.itoa n).length ≤ 20 := by
  unfold In64 at h
  unfold Lib.itoa
  split
  · have := digits_len n.natAbs 18 (by omega)
    simp only [List.length_cons]; omega
  · have := digits_len n.toNat 18 (by omega)
    omega

/-! ### what a text means -/
def intoV : Lib.NumEnd Int → Val
  | .ok n => ⟨1, n, ⟨#[]⟩⟩
  | _ => ⟨0, 0, ⟨#[]⟩⟩
def qB (l : List UInt8) : Bool := decide (2 ≤ l.length) && decide ((l.headD 0).toNat = 34)
/-- what stands between the ends -/
def innerL (l : List UInt8) : List UInt8 := (l.drop 1).take (l.length - 2)
def meaV (l : List UInt8) : Val :=
  if l = trueL then ⟨2, 1, ⟨#[]⟩⟩ else if l = falseL then ⟨2, 0, ⟨#[]⟩⟩ else if qB l then ⟨3, 0, ⟨(uneV (innerL l)).toArray⟩⟩ else intoV (Lib.parseIntB 64 l)
def parV (l : List UInt8) : Option Val :=
  if 130 < l.length then none else if mayV (meaV l) = true ∧ prV (meaV l) = l then some (meaV l) else none
theorem inner_quote (x : List UInt8) : innerL (34 :: (x ++ [34])) = x := by
  unfold innerL
  simp
theorem quote_q (x : List UInt8) : qB (34 :: (x ++ [34])) = true := by
  unfold qB
  simp
theorem mea_tx {v : Val} (hm : mayV v = true) (h : In64 v.n) : meaV (txV v) = v := by
  unfold mayV at hm
  unfold txV
  by_cases h1 : v.k = 1
  · rw [if_pos h1] at hm ⊢
    have hs := ba_nil.1 (of_decide_eq_true hm)
    obtain ⟨c, r, he, hc⟩ := itoa_head (n := v.n)
    have hp := parse_itoa h
    rw [he] at hp ⊢
    unfold meaV
    rw [if_neg (by intro e; injection e with e _; subst e; revert hc; decide), if_neg (by intro e; injection e with e _; subst e; revert hc; decide), if_neg (by unfold qB; simp; omega), hp]
    exact Val.ext' h1.symm rfl hs.symm
  · rw [if_neg h1] at hm ⊢
    by_cases h2 : v.k = 2
    · rw [if_pos h2] at hm ⊢
      simp only [Bool.and_eq_true, decide_eq_true_eq] at hm
      have hs := ba_nil.1 hm.1
      by_cases h3 : v.n = 1
      · rw [if_pos h3]
        exact Val.ext' h2.symm h3.symm hs.symm
      · rw [if_neg h3]
        have h4 : v.n = 0 := by omega
        exact Val.ext' h2.symm h4.symm hs.symm
    · rw [if_neg h2] at hm ⊢
      by_cases h3 : v.k = 3
      · rw [if_pos h3] at hm
        simp only [Bool.and_eq_true, decide_eq_true_eq] at hm
        unfold meaV
        rw [if_neg (by intro e; injection e with e _; revert e; decide), if_neg (by intro e; injection e with e _; revert e; decide), if_pos (quote_q _), inner_quote, une_esc]
        exact Val.ext' h3.symm hm.1.symm (ba_ext rfl)
      · rw [if_neg h3] at hm; cases hm
theorem tx_len {v : Val} (hm : mayV v = true) (h : In64 v.n) : (txV v).length ≤ 130 := by
  unfold mayV at hm
  unfold txV
  split
  · have := itoa_len h; omega
  · rename_i h1
    rw [if_neg h1] at hm
    split
    · split <;> decide
    · rename_i h2
      rw [if_neg h2] at hm
      split at hm
      · simp only [Bool.and_eq_true, decide_eq_true_eq] at hm
        have := esc_len v.s.data.toList
        rw [size_toList] at this
        simp only [List.length_cons, List.length_append, List.length_nil]
        omega
      · cases hm
theorem mea_in (l : List UInt8) : In64 (meaV l).n := by
  unfold meaV
  split
  · exact ⟨by decide, by decide⟩
  · split
    · exact ⟨by decide, by decide⟩
    · split
      · exact (⟨by decide, by decide⟩ : In64 0)
      · cases hp : Lib.parseIntB 64 l with
        | ok n =>
          have hb : -9223372036854775808 ≤ n ∧ n ≤ 9223372036854775807 := by
            cases l with
            | nil => simp [Lib.parseIntB] at hp
            | cons c r =>
              simp only [Lib.parseIntB] at hp
              split at hp
              · cases hp
              · cases hp
              · rename_i u hu
                rw [pow63] at hp
                split at hp
                · cases hp
                · split at hp
                  · cases hp
                  · injection hp with hp
                    subst hp
                    split <;> omega
          exact hb
        | «syntax» => exact ⟨by decide, by decide⟩
        | range => exact ⟨by decide, by decide⟩
/-- the value of a text is the one whose text it is -/
theorem par_iff {l : List UInt8} {v : Val} (h : In64 v.n) : parV l = some v ↔ mayV v = true ∧ prV v = l := by
  unfold parV
  constructor
  · intro hp
    split at hp
    · cases hp
    · split at hp
      · rename_i hq
        injection hp with hp
        subst hp
        exact hq
      · cases hp
  · rintro ⟨hm, rfl⟩
    have e : prV v = txV v := by unfold prV; rw [if_pos hm]
    rw [e, mea_tx hm h]
    have := tx_len hm h
    rw [if_neg (by omega), if_pos ⟨hm, e⟩]
theorem par_in {l : List UInt8} {v : Val} (h : parV l = some v) : In64 v.n := by
  unfold parV at h
  split at h
  · cases h
  · split at h
    · injection h with h; subst h; exact mea_in l
    · cases h
/-- two readers that each tell a value whose text it is, wherever there is one, tell the same -/
theorem par_only {l : List UInt8} {o : Option Val} (h1 : ∀ v, o = some v → mayV v = true ∧ prV v = l ∧ In64 v.n) (h2 : o = none → ∀ v, In64 v.n → mayV v = true → prV v ≠ l) : o = parV l := by
  cases o with
  | some v => obtain ⟨a, b, c⟩ := h1 v rfl; exact ((par_iff c).2 ⟨a, b⟩).symm
  | none =>
    cases hp : parV l with
    | none => rfl
    | some v =>
      have hi := par_in hp
      obtain ⟨a, b⟩ := (par_iff hi).1 hp
      exact absurd b (h2 rfl v hi a)
theorem pr_par {v : Val} (h : In64 v.n) : parV (prV v) = if mayV v then some v else none := by
  cases hm : mayV v with
  | true => rw [(par_iff h).2 ⟨hm, rfl⟩]; rfl
  | false =>
    unfold prV
    rw [hm]
    rfl
theorem pr_inj {v w : Val} (hv : In64 v.n) (hw : In64 w.n) (mv : mayV v = true) (mw : mayV w = true) (h : prV v = prV w) : v = w := by
  have h1 := pr_par hv
  have h2 := pr_par hw
  rw [mv] at h1
  rw [mw, ← h, h1] at h2
  simpa using h2
end Go.Proofs.YtnmailhlncchmaaDoor
