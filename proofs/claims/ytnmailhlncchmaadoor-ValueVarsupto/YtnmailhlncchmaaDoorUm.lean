/-
  What is proved: plain mathematics of UTF-8: the bytes of a rune (put), what is read of bytes (nx), that each undoes the other, and where a text is no runes (badAt). No condition but those in each statement.
-/
import Derived.Test.YtnmailhlncchmaaDoorBase
namespace Go.Proofs.YtnmailhlncchmaaDoor

def isR (r : Int) : Prop := 0 ≤ r ∧ r ≤ 1114111 ∧ (r < 55296 ∨ 57343 < r)
instance (r : Int) : Decidable (isR r) := by unfold isR; exact inferInstance
/-- how many bytes a rune has -/
def sz (r : Int) : Nat := if isR r then (if r < 128 then 1 else if r < 2048 then 2 else if r < 65536 then 3 else 4) else 0
/-- a rune's bytes -/
def put (r : Int) : List UInt8 :=
  if isR r then
    (if r < 128 then [byteOf r]
     else if r < 2048 then [byteOf (192 + r / 64), byteOf (128 + r % 64)]
     else if r < 65536 then [byteOf (224 + r / 4096), byteOf (128 + r / 64 % 64), byteOf (128 + r % 64)]
     else [byteOf (240 + r / 262144), byteOf (128 + r / 4096 % 64), byteOf (128 + r / 64 % 64), byteOf (128 + r % 64)])
  else []
theorem put_length (r : Int) : (put r).length = sz r := by
  unfold put sz
  by_cases h : isR r
  · simp only [if_pos h]
    by_cases h1 : r < 128
    · simp [h1]
    · by_cases h2 : r < 2048
      · simp [h1, h2]
      · by_cases h3 : r < 65536
        · simp [h1, h2, h3]
        · simp [h1, h2, h3]
  · simp [if_neg h]
theorem sz_pos {r : Int} (h : isR r) : 1 ≤ sz r ∧ sz r ≤ 4 := by
  unfold sz
  rw [if_pos h]
  split
  · omega
  · split
    · omega
    · split <;> omega
theorem sz_not {r : Int} (h : ¬ isR r) : sz r = 0 := by unfold sz; rw [if_neg h]
theorem put_not {r : Int} (h : ¬ isR r) : put r = [] := by unfold put; rw [if_neg h]
theorem put_ne {r : Int} : put r ≠ [] ↔ isR r := by
  constructor
  · intro h
    by_cases h1 : isR r
    · exact h1
    · exact absurd (put_not h1) h
  · intro h h1
    have := put_length r
    rw [h1] at this
    have := sz_pos h
    simp at *
    omega

/-- what a first byte says -/
def beg (b : Nat) : Int × Nat :=
  if b < 128 then ((b : Int), 1) else if b < 192 then (0, 0) else if b < 224 then (((b % 32 : Nat) : Int), 2)
  else if b < 240 then (((b % 16 : Nat) : Int), 3) else if b < 248 then (((b % 8 : Nat) : Int), 4) else (0, 0)
theorem beg_zero {b : Nat} (h : (beg b).2 = 0) : beg b = (0, 0) := by
  unfold beg at h ⊢
  by_cases h1 : b < 128
  · rw [if_pos h1] at h; cases h
  · rw [if_neg h1] at h ⊢
    by_cases h2 : b < 192
    · rw [if_pos h2]
    · rw [if_neg h2] at h ⊢
      by_cases h3 : b < 224
      · rw [if_pos h3] at h; cases h
      · rw [if_neg h3] at h ⊢
        by_cases h4 : b < 240
        · rw [if_pos h4] at h; cases h
        · rw [if_neg h4] at h ⊢
          by_cases h5 : b < 248
          · rw [if_pos h5] at h; cases h
          · rw [if_neg h5]
/-- the tails that follow -/
def tails : List UInt8 → Nat → Int → Option Int
  | _, 0, r => some r
  | [], _ + 1, _ => none
  | b :: t, k + 1, r => if b.toNat / 64 = 2 then tails t k (r * 64 + ((b.toNat % 64 : Nat) : Int)) else none
/-- what is read at a text's beginning -/
def nx : List UInt8 → Int × Nat
  | [] => (0, 0)
  | b :: t => if (beg b.toNat).2 > (b :: t).length then (0, 0) else
      match tails t ((beg b.toNat).2 - 1) (beg b.toNat).1 with
      | none => (0, 0)
      | some r => if (beg b.toNat).2 = sz r then (r, (beg b.toNat).2) else (0, 0)

theorem byteOf_nat {x : Int} (h0 : 0 ≤ x) (h1 : x < 256) : (byteOf x).toNat = x.toNat := by
  have := byteOf_cast x
  omega
theorem byteOf_eq {x : Int} {b : UInt8} (h : x = (b.toNat : Int)) : byteOf x = b := by
  have := byteOf_cast x
  have h2 := b.toNat_lt
  apply UInt8.toNat_inj.1
  omega

theorem nx_put {r : Int} (h : isR r) (t : List UInt8) : nx (put r ++ t) = (r, sz r) := by
  have h' := h
  unfold isR at h'
  unfold put
  rw [if_pos h]
  by_cases h1 : r < 128
  · rw [if_pos h1]
    have e : (byteOf r).toNat = r.toNat := byteOf_nat (by omega) (by omega)
    have hb : beg (byteOf r).toNat = (r, 1) := by
      rw [e]; unfold beg; rw [if_pos (by omega)]
      congr 1; omega
    have hs : sz r = 1 := by unfold sz; rw [if_pos h, if_pos h1]
    simp only [List.cons_append, List.nil_append, nx, hb]
    simp [tails, hs]
  · rw [if_neg h1]
    by_cases h2 : r < 2048
    · rw [if_pos h2]
      have e : (byteOf (192 + r / 64)).toNat = (192 + r / 64).toNat := byteOf_nat (by omega) (by omega)
      have e1 : (byteOf (128 + r % 64)).toNat = (128 + r % 64).toNat := byteOf_nat (by omega) (by omega)
      have hb : beg (byteOf (192 + r / 64)).toNat = (r / 64, 2) := by
        rw [e]; unfold beg; rw [if_neg (by omega), if_neg (by omega), if_pos (by omega)]
        congr 1; omega
      have hs : sz r = 2 := by unfold sz; rw [if_pos h, if_neg h1, if_pos h2]
      have ht : tails (byteOf (128 + r % 64) :: t) 1 (r / 64) = some r := by
        simp only [tails, e1]
        rw [if_pos (by omega)]
        congr 1; omega
      simp only [List.cons_append, List.nil_append, nx, hb, ht]
      simp [hs]
    · rw [if_neg h2]
      by_cases h3 : r < 65536
      · rw [if_pos h3]
        have e : (byteOf (224 + r / 4096)).toNat = (224 + r / 4096).toNat := byteOf_nat (by omega) (by omega)
        have e2 : (byteOf (128 + r / 64 % 64)).toNat = (128 + r / 64 % 64).toNat := byteOf_nat (by omega) (by omega)
        have e1 : (byteOf (128 + r % 64)).toNat = (128 + r % 64).toNat := byteOf_nat (by omega) (by omega)
        have hb : beg (byteOf (224 + r / 4096)).toNat = (r / 4096, 3) := by
          rw [e]; unfold beg; rw [if_neg (by omega), if_neg (by omega), if_neg (by omega), if_pos (by omega)]
          congr 1; omega
        have hs : sz r = 3 := by unfold sz; rw [if_pos h, if_neg h1, if_neg h2, if_pos h3]
        have ht : tails (byteOf (128 + r / 64 % 64) :: byteOf (128 + r % 64) :: t) 2 (r / 4096) = some r := by
          simp only [tails, e1, e2]
          rw [if_pos (by omega), if_pos (by omega)]
          congr 1; omega
        simp only [List.cons_append, List.nil_append, nx, hb, ht]
        simp [hs]
      · rw [if_neg h3]
        have e : (byteOf (240 + r / 262144)).toNat = (240 + r / 262144).toNat := byteOf_nat (by omega) (by omega)
        have e3 : (byteOf (128 + r / 4096 % 64)).toNat = (128 + r / 4096 % 64).toNat := byteOf_nat (by omega) (by omega)
        have e2 : (byteOf (128 + r / 64 % 64)).toNat = (128 + r / 64 % 64).toNat := byteOf_nat (by omega) (by omega)
        have e1 : (byteOf (128 + r % 64)).toNat = (128 + r % 64).toNat := byteOf_nat (by omega) (by omega)
        have hb : beg (byteOf (240 + r / 262144)).toNat = (r / 262144, 4) := by
          rw [e]; unfold beg; rw [if_neg (by omega), if_neg (by omega), if_neg (by omega), if_neg (by omega), if_pos (by omega)]
          congr 1; omega
        have hs : sz r = 4 := by unfold sz; rw [if_pos h, if_neg h1, if_neg h2, if_neg h3]
        have ht : tails (byteOf (128 + r / 4096 % 64) :: byteOf (128 + r / 64 % 64) :: byteOf (128 + r % 64) :: t) 3 (r / 262144) = some r := by
          simp only [tails, e1, e2, e3]
          rw [if_pos (by omega), if_pos (by omega), if_pos (by omega)]
          congr 1; omega
        simp only [List.cons_append, List.nil_append, nx, hb, ht]
        simp [hs]

theorem sz_one {r : Int} (h : 1 = sz r) : isR r ∧ r < 128 := by
  unfold sz at h
  split at h
  · rename_i h1
    refine ⟨h1, ?_⟩
    split at h
    · assumption
    · split at h
      · omega
      · split at h <;> omega
  · omega
theorem sz_two {r : Int} (h : 2 = sz r) : isR r ∧ 128 ≤ r ∧ r < 2048 := by
  unfold sz at h
  split at h
  · rename_i h1
    refine ⟨h1, ?_⟩
    split at h
    · omega
    · split at h
      · omega
      · split at h <;> omega
  · omega
theorem sz_three {r : Int} (h : 3 = sz r) : isR r ∧ 2048 ≤ r ∧ r < 65536 := by
  unfold sz at h
  split at h
  · rename_i h1
    refine ⟨h1, ?_⟩
    split at h
    · omega
    · split at h
      · omega
      · split at h <;> omega
  · omega
theorem sz_four {r : Int} (h : 4 = sz r) : isR r ∧ 65536 ≤ r := by
  unfold sz at h
  split at h
  · rename_i h1
    refine ⟨h1, ?_⟩
    split at h
    · omega
    · split at h
      · omega
      · split at h <;> omega
  · omega
theorem tails_cons {b : UInt8} {t : List UInt8} {k : Nat} {r r' : Int} (h : tails (b :: t) (k + 1) r = some r') :
    b.toNat / 64 = 2 ∧ tails t k (r * 64 + ((b.toNat % 64 : Nat) : Int)) = some r' := by
  simp only [tails] at h
  split at h
  · exact ⟨by assumption, h⟩
  · cases h

theorem nx_read (l : List UInt8) : nx l = (0, 0) ∨ (∃ r, isR r ∧ nx l = (r, sz r) ∧ put r = l.take (sz r) ∧ sz r ≤ l.length) := by
  cases l with
  | nil => left; rfl
  | cons b t =>
    have hb := b.toNat_lt
    have key : ∀ r' n, n ≠ 0 → (beg b.toNat).2 = n → n ≤ (b :: t).length → tails t (n - 1) (beg b.toNat).1 = some r' → n = sz r' → isR r' ∧ put r' = (b :: t).take n := by
      intro r' n hn0 hn hle ht hs
      unfold beg at hn ht
      split at hn
      · rw [if_pos (by assumption)] at ht
        subst hn
        obtain ⟨h1, h2⟩ := sz_one hs
        simp only [tails, Nat.sub_self] at ht
        obtain rfl := Option.some.inj ht
        refine ⟨h1, ?_⟩
        unfold put
        rw [if_pos h1, if_pos h2]
        rw [byteOf_eq rfl]
        rfl
      · rw [if_neg (by assumption)] at ht
        split at hn
        · exact absurd hn.symm hn0
        · rw [if_neg (by assumption)] at ht
          split at hn
          · rw [if_pos (by assumption)] at ht
            subst hn
            obtain ⟨h1, h2, h3⟩ := sz_two hs
            match t, hle, ht with
            | c :: t', _, ht =>
              obtain ⟨g1, ht⟩ := tails_cons ht
              simp only [tails] at ht
              have hr := Option.some.inj ht
              refine ⟨h1, ?_⟩
              unfold put
              rw [if_pos h1, if_neg (by omega), if_pos h3]
              have q0 : byteOf (192 + r' / 64) = b := byteOf_eq (by omega)
              have q1 : byteOf (128 + r' % 64) = c := byteOf_eq (by omega)
              rw [q0, q1]
              rfl
          · rw [if_neg (by assumption)] at ht
            split at hn
            · rw [if_pos (by assumption)] at ht
              subst hn
              obtain ⟨h1, h2, h3⟩ := sz_three hs
              match t, hle, ht with
              | c :: d :: t', _, ht =>
                obtain ⟨g1, ht⟩ := tails_cons ht
                obtain ⟨g2, ht⟩ := tails_cons ht
                simp only [tails] at ht
                have hr := Option.some.inj ht
                refine ⟨h1, ?_⟩
                unfold put
                rw [if_pos h1, if_neg (by omega), if_neg (by omega), if_pos h3]
                have q0 : byteOf (224 + r' / 4096) = b := byteOf_eq (by omega)
                have q1 : byteOf (128 + r' / 64 % 64) = c := byteOf_eq (by omega)
                have q2 : byteOf (128 + r' % 64) = d := byteOf_eq (by omega)
                rw [q0, q1, q2]
                rfl
              | [c], h, _ => simp at h
            · rw [if_neg (by assumption)] at ht
              split at hn
              · rw [if_pos (by assumption)] at ht
                subst hn
                obtain ⟨h1, h2⟩ := sz_four hs
                match t, hle, ht with
                | c :: d :: e :: t', _, ht =>
                  obtain ⟨g1, ht⟩ := tails_cons ht
                  obtain ⟨g2, ht⟩ := tails_cons ht
                  obtain ⟨g3, ht⟩ := tails_cons ht
                  simp only [tails] at ht
                  have hr := Option.some.inj ht
                  refine ⟨h1, ?_⟩
                  unfold put
                  rw [if_pos h1, if_neg (by omega), if_neg (by omega), if_neg (by omega)]
                  have q0 : byteOf (240 + r' / 262144) = b := byteOf_eq (by omega)
                  have q1 : byteOf (128 + r' / 4096 % 64) = c := byteOf_eq (by omega)
                  have q2 : byteOf (128 + r' / 64 % 64) = d := byteOf_eq (by omega)
                  have q3 : byteOf (128 + r' % 64) = e := byteOf_eq (by omega)
                  rw [q0, q1, q2, q3]
                  rfl
                | [c], h, _ => simp at h
                | [c, d], h, _ => simp at h
              · exact absurd hn.symm hn0
    by_cases h1 : (beg b.toNat).2 > (b :: t).length
    · left
      simp only [nx]
      rw [if_pos h1]
    · cases ht : tails t ((beg b.toNat).2 - 1) (beg b.toNat).1 with
      | none => left; simp only [nx]; rw [if_neg h1, ht]
      | some r' =>
        by_cases hs : (beg b.toNat).2 = sz r'
        · by_cases hz : (beg b.toNat).2 = 0
          · left
            have : beg b.toNat = (0, 0) := by
              exact beg_zero hz
            rw [this] at ht hs
            simp only [tails, Nat.zero_sub] at ht
            obtain rfl := Option.some.inj ht
            exact absurd hs (by decide)
          · right
            obtain ⟨g1, g2⟩ := key r' _ hz rfl (by omega) ht hs
            refine ⟨r', g1, ?_, by rw [← hs]; exact g2, by rw [← hs]; omega⟩
            simp only [nx]
            rw [if_neg h1, ht]
            simp only
            rw [if_pos hs, hs]
        · left
          simp only [nx]
          rw [if_neg h1, ht]
          simp only
          rw [if_neg hs]

theorem nx_pre {r : Int} (h : isR r) {l : List UInt8} (hp : put r = l.take (sz r)) : nx l = (r, sz r) := by
  have : l = put r ++ l.drop (sz r) := by rw [hp, List.take_append_drop]
  rw [this]
  exact nx_put h _
/-- what is read of a part is read of the whole -/
theorem nx_take {l : List UInt8} {k : Nat} (h : (nx (l.take k)).2 ≠ 0) : nx l = nx (l.take k) := by
  rcases nx_read (l.take k) with h1 | ⟨r, h1, h2, h3, h4⟩
  · rw [h1] at h; exact absurd rfl h
  · rw [h2]
    apply nx_pre h1
    rw [h3, List.take_take]
    rw [List.length_take] at h4
    congr 1
    omega
theorem nx_take' {l : List UInt8} {k : Nat} (h : (nx l).2 ≤ k) : (nx l).2 ≠ 0 → nx (l.take k) = nx l := by
  intro h0
  rcases nx_read l with h1 | ⟨r, h1, h2, h3, h4⟩
  · rw [h1] at h0; exact absurd rfl h0
  · rw [h2] at h ⊢
    apply nx_pre h1
    rw [h3, List.take_take]
    congr 1
    simp at h
    omega
theorem nx_le (l : List UInt8) : (nx l).2 ≤ l.length ∧ (nx l).2 ≤ 4 := by
  rcases nx_read l with h1 | ⟨r, h1, h2, h3, h4⟩
  · rw [h1]; simp
  · rw [h2]; exact ⟨h4, (sz_pos h1).2⟩

/-! ### the document's way of reading -/
def decT : List UInt8 → Nat → Int → Int
  | _, 0, r => r
  | [], _ + 1, r => r
  | b :: t, k + 1, r => decT t k (r * 64 + ((b.toNat % 64 : Nat) : Int))
/-- so many bytes as a number -/
def dec (l : List UInt8) (n : Nat) : Int :=
  match l with
  | [] => 0
  | b :: t => decT t (n - 1) (if n = 1 then (b.toNat : Int) else ((b.toNat % 2 ^ (7 - n) : Nat) : Int))
def hit (l : List UInt8) (n : Nat) : Prop := n ≤ l.length ∧ put (dec l n) = l.take n
theorem dec_put {r : Int} (h : isR r) (t : List UInt8) : dec (put r ++ t) (sz r) = r := by
  have h' := h
  unfold isR at h'
  unfold put sz
  rw [if_pos h, if_pos h]
  by_cases h1 : r < 128
  · rw [if_pos h1, if_pos h1]
    have e : (byteOf r).toNat = r.toNat := byteOf_nat (by omega) (by omega)
    simp only [List.cons_append, List.nil_append, dec, decT, Nat.sub_self]
    simp only [if_true, e]
    omega
  · rw [if_neg h1, if_neg h1]
    by_cases h2 : r < 2048
    · rw [if_pos h2, if_pos h2]
      have e : (byteOf (192 + r / 64)).toNat = (192 + r / 64).toNat := byteOf_nat (by omega) (by omega)
      have e1 : (byteOf (128 + r % 64)).toNat = (128 + r % 64).toNat := byteOf_nat (by omega) (by omega)
      simp only [List.cons_append, List.nil_append, dec, decT, Nat.add_one_sub_one, e, e1]
      rw [if_neg (by omega)]
      simp only [Nat.reduceSub, Nat.reducePow]
      omega
    · rw [if_neg h2, if_neg h2]
      by_cases h3 : r < 65536
      · rw [if_pos h3, if_pos h3]
        have e : (byteOf (224 + r / 4096)).toNat = (224 + r / 4096).toNat := byteOf_nat (by omega) (by omega)
        have e2 : (byteOf (128 + r / 64 % 64)).toNat = (128 + r / 64 % 64).toNat := byteOf_nat (by omega) (by omega)
        have e1 : (byteOf (128 + r % 64)).toNat = (128 + r % 64).toNat := byteOf_nat (by omega) (by omega)
        simp only [List.cons_append, List.nil_append, dec, decT, Nat.add_one_sub_one, e, e1, e2]
        rw [if_neg (by omega)]
        simp only [Nat.reduceSub, Nat.reducePow]
        omega
      · rw [if_neg h3, if_neg h3]
        have e : (byteOf (240 + r / 262144)).toNat = (240 + r / 262144).toNat := byteOf_nat (by omega) (by omega)
        have e3 : (byteOf (128 + r / 4096 % 64)).toNat = (128 + r / 4096 % 64).toNat := byteOf_nat (by omega) (by omega)
        have e2 : (byteOf (128 + r / 64 % 64)).toNat = (128 + r / 64 % 64).toNat := byteOf_nat (by omega) (by omega)
        have e1 : (byteOf (128 + r % 64)).toNat = (128 + r % 64).toNat := byteOf_nat (by omega) (by omega)
        simp only [List.cons_append, List.nil_append, dec, decT, Nat.add_one_sub_one, e, e1, e2, e3]
        rw [if_neg (by omega)]
        simp only [Nat.reduceSub, Nat.reducePow]
        omega
theorem nx_hit {l : List UInt8} {n : Nat} (h0 : 1 ≤ n) (h : hit l n) : nx l = (dec l n, n) := by
  obtain ⟨h1, h2⟩ := h
  have hl : (put (dec l n)).length = n := by rw [h2, List.length_take]; omega
  have hR : isR (dec l n) := put_ne.1 (by intro e; rw [e] at hl; simp at hl; omega)
  rw [put_length] at hl
  have := nx_pre hR (l := l) (by rw [hl]; exact h2)
  rw [this, hl]
theorem nx_none {l : List UInt8} {m : Nat} (h : ∀ n, 1 ≤ n → n < m → ¬ hit l n) (hm : 5 ≤ m ∨ l.length < m) : nx l = (0, 0) := by
  rcases nx_read l with h1 | ⟨r, h1, h2, h3, h4⟩
  · exact h1
  · exfalso
    have hs := sz_pos h1
    have : l = put r ++ l.drop (sz r) := by rw [h3, List.take_append_drop]
    have hd : dec l (sz r) = r := by rw [this]; exact dec_put h1 _
    exact h (sz r) hs.1 (by omega) ⟨h4, by rw [hd]; exact h3⟩

/-! ### where a text is no runes -/
def badAt (s : List UInt8) (k : Nat) : Int :=
  if h : k < s.length then (if (nx (s.drop k)).2 = 0 then (k : Int) else badAt s (k + (nx (s.drop k)).2)) else -1
termination_by s.length - k
theorem badAt_end {s : List UInt8} {k : Nat} (h : s.length ≤ k) : badAt s k = -1 := by rw [badAt, dif_neg (by omega)]
theorem badAt_here {s : List UInt8} {k : Nat} (h : k < s.length) (h0 : (nx (s.drop k)).2 = 0) : badAt s k = k := by rw [badAt, dif_pos h, if_pos h0]
theorem badAt_on {s : List UInt8} {k : Nat} (h : k < s.length) (h0 : (nx (s.drop k)).2 ≠ 0) : badAt s k = badAt s (k + (nx (s.drop k)).2) := by rw [badAt, dif_pos h, if_neg h0]
theorem badAt_ways (s : List UInt8) : ∀ (m i : Nat), s.length - i = m → badAt s i = -1 ∨
    (∃ k : Nat, badAt s i = k ∧ i ≤ k ∧ k < s.length ∧ (nx (s.drop k)).2 = 0 ∧ badAt (s.take k) i = -1 ∧ badAt (s.take (k + 1)) i = k) := by
  intro m
  induction m using Nat.strongRecOn with
  | ind m ih =>
    intro i hm
    by_cases hi : i < s.length
    · by_cases h0 : (nx (s.drop i)).2 = 0
      · right
        refine ⟨i, badAt_here hi h0, Nat.le_refl _, hi, h0, badAt_end (by simp; omega), badAt_here (by simp; omega) ?_⟩
        have e : (s.take (i + 1)).drop i = (s.drop i).take 1 := by
          rw [List.drop_take]
          congr 1
          omega
        rw [e]
        by_cases h1 : (nx ((s.drop i).take 1)).2 = 0
        · exact h1
        · rw [nx_take h1] at h0
          exact absurd h0 h1
      · rw [badAt_on hi h0]
        rcases ih (s.length - (i + (nx (s.drop i)).2)) (by omega) (i + (nx (s.drop i)).2) rfl with h1 | ⟨k, h1, h2, h3, h4, h5, h6⟩
        · left; exact h1
        · right
          have e : ∀ j, i + (nx (s.drop i)).2 ≤ j → j ≤ s.length → badAt (s.take j) i = badAt (s.take j) (i + (nx (s.drop i)).2) := by
            intro j hj hj2
            have e1 : (s.take j).drop i = (s.drop i).take (j - i) := by rw [List.drop_take]
            have e2 : nx ((s.take j).drop i) = nx (s.drop i) := by
              rw [e1]
              exact nx_take' (by omega) h0
            have := badAt_on (s := s.take j) (k := i) (by rw [List.length_take]; omega) (by rw [e2]; exact h0)
            rw [this, e2]
          exact ⟨k, h1, by omega, h3, h4, by rw [e k h2 (by omega)]; exact h5, by rw [e (k + 1) (by omega) (by omega)]; exact h6⟩
    · left; exact badAt_end (by omega)
theorem badAt_runes (rs : List Int) (h : ∀ r ∈ rs, isR r) : ∀ (p : List UInt8), badAt (p ++ (rs.map put).flatten) p.length = -1 := by
  induction rs with
  | nil => intro p; exact badAt_end (by simp)
  | cons r rs ih =>
    intro p
    have hr := h r (List.mem_cons_self ..)
    have hp := sz_pos hr
    have hl := put_length r
    have e : (p ++ ((r :: rs).map put).flatten).drop p.length = put r ++ (rs.map put).flatten := by simp
    have en : nx ((p ++ ((r :: rs).map put).flatten).drop p.length) = (r, sz r) := by rw [e]; exact nx_put hr _
    rw [badAt_on (by simp; omega) (by rw [en]; simp; omega), en]
    have := ih (fun r hr => h r (List.mem_cons_of_mem _ hr)) (p ++ put r)
    rw [List.length_append, hl] at this
    simpa [List.append_assoc] using this
end Go.Proofs.YtnmailhlncchmaaDoor
