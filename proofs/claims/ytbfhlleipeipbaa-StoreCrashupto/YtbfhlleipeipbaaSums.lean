/-
  What is proved: plain facts on the check sum, as a function of numbers and lists of bytes: it stays below 2^32, steps are linear over exclusive or and can be taken back, sums of two texts make that of both, and a difference within four bytes shows. No condition but those in each statement.
-/
import Derived.Test.YtbfhlleipeipbaaBase
namespace Go.Proofs.Ytbfhlleipeipbaa

def half (c : Nat) : Nat := if c % 2 = 1 then (c / 2) ^^^ 3988292384 else c / 2
def it : Nat → Nat → Nat
  | 0, c => c
  | k + 1, c => half (it k c)
def stp (c b : Nat) : Nat := it 8 (c ^^^ b)
def run (c : Nat) (l : List UInt8) : Nat := l.foldl (fun c b => stp c b.toNat) c
def crc (l : List UInt8) : Nat := run 4294967295 l ^^^ 4294967295
/-- n bytes of zero behind -/
def zs : Nat → Nat → Nat
  | 0, c => c
  | n + 1, c => stp (zs n c) 0

theorem xor_lt32 {a b : Nat} (h : a < 4294967296) (k : b < 4294967296) : a ^^^ b < 4294967296 := Nat.xor_lt_two_pow (n := 32) h k
theorem xor_cancel (a b : Nat) : (a ^^^ b) ^^^ b = a := by rw [Nat.xor_assoc, Nat.xor_self, Nat.xor_zero]
theorem xor_zero_eq {a b : Nat} (h : a ^^^ b = 0) : a = b := by
  have := xor_cancel a b
  rw [h, Nat.zero_xor] at this
  exact this.symm
theorem xor_four (a b c d : Nat) : (a ^^^ b) ^^^ (c ^^^ d) = (a ^^^ c) ^^^ (b ^^^ d) := by
  rw [Nat.xor_assoc, Nat.xor_assoc, ← Nat.xor_assoc b c d, Nat.xor_comm b c, Nat.xor_assoc c b d]

theorem half_lt {c : Nat} (h : c < 4294967296) : half c < 4294967296 := by
  unfold half
  split
  · exact xor_lt32 (by omega) (by decide)
  · omega
theorem it_lt {c : Nat} (h : c < 4294967296) : ∀ k, it k c < 4294967296
  | 0 => h
  | k + 1 => half_lt (it_lt h k)
theorem stp_lt {c b : Nat} (h : c < 4294967296) (k : b < 256) : stp c b < 4294967296 := it_lt (xor_lt32 h (by omega)) 8
theorem run_lt (l : List UInt8) : ∀ {c : Nat}, c < 4294967296 → run c l < 4294967296 := by
  induction l with
  | nil => intro c h; exact h
  | cons b l ih => intro c h; exact ih (stp_lt h (UInt8.toNat_lt b))
theorem run_append (c : Nat) (l m : List UInt8) : run c (l ++ m) = run (run c l) m := by simp [run]
theorem run_snoc (c : Nat) (l : List UInt8) (b : UInt8) : run c (l ++ [b]) = stp (run c l) b.toNat := by simp [run]
theorem run_cons (c : Nat) (l : List UInt8) (b : UInt8) : run c (b :: l) = run (stp c b.toNat) l := by unfold run; rw [List.foldl_cons]
theorem crc_lt (l : List UInt8) : crc l < 4294967296 := xor_lt32 (run_lt l (by decide)) (by decide)
theorem zs_succ (n c : Nat) : zs (n + 1) c = stp (zs n c) 0 := rfl
theorem zs_lt {c : Nat} (h : c < 4294967296) (n : Nat) : zs n c < 4294967296 := by
  induction n with
  | zero => exact h
  | succ n ih => rw [zs_succ]; exact stp_lt ih (by omega)

/-! ### steps are linear -/
theorem half_xor (a b : Nat) : half (a ^^^ b) = half a ^^^ half b := by
  unfold half
  rw [Nat.xor_div_two]
  by_cases ha : a % 2 = 1 <;> by_cases hb : b % 2 = 1
  · rw [if_neg (by rw [Nat.xor_mod_two_eq_one]; simp [ha, hb]), if_pos ha, if_pos hb, xor_four, Nat.xor_self, Nat.xor_zero]
  · rw [if_pos (by rw [Nat.xor_mod_two_eq_one]; simp [ha, hb]), if_pos ha, if_neg hb, Nat.xor_assoc, Nat.xor_assoc, Nat.xor_comm (b / 2)]
  · rw [if_pos (by rw [Nat.xor_mod_two_eq_one]; simp [ha, hb]), if_neg ha, if_pos hb, Nat.xor_assoc]
  · rw [if_neg (by rw [Nat.xor_mod_two_eq_one]; simp [ha, hb]), if_neg ha, if_neg hb]
theorem it_xor (a b : Nat) : ∀ k, it k (a ^^^ b) = it k a ^^^ it k b
  | 0 => rfl
  | k + 1 => by show half _ = half _ ^^^ half _; rw [it_xor a b k, half_xor]
theorem it_zero : ∀ k, it k 0 = 0
  | 0 => rfl
  | k + 1 => by show half _ = 0; rw [it_zero k]; rfl
theorem stp_xor (c d a b : Nat) : stp c a ^^^ stp d b = stp (c ^^^ d) (a ^^^ b) := by
  unfold stp
  rw [← it_xor, xor_four]
theorem zs_comm (n c : Nat) : zs n (stp c 0) = stp (zs n c) 0 := by
  induction n with
  | zero => rfl
  | succ n ih => show stp _ 0 = stp _ 0; rw [ih]; rfl
/-- what two sums differ by, behind the same bytes -/
theorem run_same (l : List UInt8) : ∀ c d : Nat, run c l ^^^ run d l = zs l.length (c ^^^ d) := by
  induction l with
  | nil => intro c d; rfl
  | cons b l ih =>
    intro c d
    rw [run_cons, run_cons, ih, stp_xor, Nat.xor_self, List.length_cons]
    exact zs_comm _ _
theorem crc_join (a b : List UInt8) : zs b.length (crc a) ^^^ crc b = crc (a ++ b) := by
  have h := run_same b (run 4294967295 a) 4294967295
  show zs b.length (run 4294967295 a ^^^ 4294967295) ^^^ (run 4294967295 b ^^^ 4294967295) = run 4294967295 (a ++ b) ^^^ 4294967295
  rw [← h, run_append, ← Nat.xor_assoc, xor_cancel]

/-! ### steps can be taken back -/
theorem half_kernel {z : Nat} (h : z < 4294967296) (e : half z = 0) : z = 0 := by
  unfold half at e
  split at e
  · have := xor_zero_eq e
    omega
  · omega
theorem it_kernel {z : Nat} (h : z < 4294967296) : ∀ k, it k z = 0 → z = 0
  | 0, e => e
  | k + 1, e => it_kernel h k (half_kernel (it_lt h k) e)
theorem it_inj {c d : Nat} (h : c < 4294967296) (k : d < 4294967296) (n : Nat) (e : it n c = it n d) : c = d := by
  apply xor_zero_eq
  apply it_kernel (xor_lt32 h k) n
  rw [it_xor, e, Nat.xor_self]
theorem stp_inj {c d b : Nat} (h : c < 4294967296) (k : d < 4294967296) (hb : b < 256) (e : stp c b = stp d b) : c = d := by
  have := it_inj (xor_lt32 h (by omega)) (xor_lt32 k (by omega)) 8 e
  have h1 := xor_cancel c b
  rw [this, xor_cancel] at h1
  exact h1.symm
theorem run_inj (l : List UInt8) : ∀ {c d : Nat}, c < 4294967296 → d < 4294967296 → (run c l = run d l ↔ c = d) := by
  induction l with
  | nil => intro c d _ _; exact Iff.rfl
  | cons b l ih =>
    intro c d h k
    rw [run_cons, run_cons, ih (stp_lt h (UInt8.toNat_lt b)) (stp_lt k (UInt8.toNat_lt b))]
    exact ⟨fun e => stp_inj h k (UInt8.toNat_lt b) e, fun e => by rw [e]⟩

/-! ### a difference within four bytes shows -/
theorem half_small {y m : Nat} (h : y < 4294967296) (hm : m ≤ 2147483648) (e : half y < m) : y = 2 * half y := by
  unfold half at e ⊢
  split
  · rename_i hy
    rw [if_pos hy] at e
    have h1 : (y / 2 ^^^ 3988292384) / 2 ^ 31 = y / 2 / 2 ^ 31 ^^^ 3988292384 / 2 ^ 31 := Nat.xor_div_two_pow
    have h2 : y / 2 / 2 ^ 31 = 0 := by omega
    have h3 : (3988292384 : Nat) / 2 ^ 31 = 1 := by decide
    rw [h2, h3] at h1
    simp at h1
    omega
  · omega
theorem it_small {y : Nat} (h : y < 4294967296) : ∀ k m, m * 2 ^ k ≤ 4294967296 → it k y < m → y = 2 ^ k * it k y
  | 0, _, _, _ => by simp [it]
  | k + 1, m, hm, e => by
    have e' : half (it k y) < m := e
    have hm' : m * 2 ≤ 4294967296 := Nat.le_trans (Nat.mul_le_mul_left m (by rw [Nat.pow_succ]; have := Nat.one_le_two_pow (n := k); omega)) hm
    have h1 := half_small (it_lt h k) (by omega) e'
    have h2 := it_small h k (2 * m) (by rw [Nat.mul_comm 2 m, Nat.mul_assoc, ← Nat.pow_succ']; exact hm) (by omega)
    show y = 2 ^ (k + 1) * half (it k y)
    rw [Nat.pow_succ, Nat.mul_assoc, ← h1]
    exact h2
theorem stp_small {c b : Nat} (h : c < 4294967296) (hb : b < 256) (e : stp c b < 16777216) : c = 256 * stp c b ^^^ b := by
  have h1 := it_small (xor_lt32 h (by omega)) 8 16777216 (by decide) e
  have h2 := xor_cancel c b
  rw [show c ^^^ b = 256 * stp c b from h1] at h2
  exact h2.symm
theorem stp_none {c b : Nat} (h : c < 4294967296) (hb : b < 256) (e : stp c b = 0) : c = b := by
  have h1 := stp_small h hb (by omega)
  rw [e, Nat.mul_zero, Nat.zero_xor] at h1
  exact h1
theorem high_low {v x : Nat} (hx : x < 256) (e : 256 * v ^^^ x = 0) : v = 0 ∧ x = 0 := by
  have := xor_zero_eq e
  omega
theorem high_lt {v x n : Nat} (hv : 256 * v < 2 ^ n) (hx : x < 2 ^ n) : 256 * v ^^^ x < 2 ^ n := Nat.xor_lt_two_pow hv hx
theorem four_bytes {x0 x1 x2 x3 : Nat} (h0 : x0 < 256) (h1 : x1 < 256) (h2 : x2 < 256) (h3 : x3 < 256) (e : stp (stp (stp (stp 0 x0) x1) x2) x3 = 0) : x0 = 0 ∧ x1 = 0 ∧ x2 = 0 ∧ x3 = 0 := by
  have l1 : stp 0 x0 < 4294967296 := stp_lt (by decide) h0
  have l2 : stp (stp 0 x0) x1 < 4294967296 := stp_lt l1 h1
  have l3 : stp (stp (stp 0 x0) x1) x2 < 4294967296 := stp_lt l2 h2
  have d3 := stp_none l3 h3 e
  have d2 := stp_small l2 h2 (by omega)
  rw [d3] at d2
  have s2 : stp (stp 0 x0) x1 < 65536 := by rw [d2]; exact high_lt (n := 16) (by omega) (by omega)
  have d1 := stp_small l1 h1 (by omega)
  have s1 : stp 0 x0 < 16777216 := by rw [d1]; exact high_lt (n := 24) (by omega) (by omega)
  have d0 := stp_small (c := 0) (by decide) h0 s1
  obtain ⟨z1, rfl⟩ := high_low h0 d0.symm
  rw [z1] at d1
  obtain ⟨z2, rfl⟩ := high_low h1 d1.symm
  rw [z2] at d2
  obtain ⟨z3, rfl⟩ := high_low h2 d2.symm
  exact ⟨rfl, rfl, rfl, z3⟩
/-- what differs, byte by byte -/
def dif (l m : List UInt8) : List UInt8 := List.zipWith (· ^^^ ·) l m
theorem run_dif : ∀ (l m : List UInt8) (c d : Nat), l.length = m.length → run c l ^^^ run d m = run (c ^^^ d) (dif l m) := by
  intro l
  induction l with
  | nil => intro m c d h; cases m with
    | nil => rfl
    | cons _ _ => cases h
  | cons b l ih => intro m c d h; cases m with
    | nil => cases h
    | cons b' m =>
      rw [run_cons, run_cons, ih m _ _ (by simpa using h), stp_xor, ← UInt8.toNat_xor]
      rfl
theorem run_zeros (n : Nat) : run 0 (List.replicate n 0) = 0 := by
  induction n with
  | zero => rfl
  | succ n ih => rw [List.replicate_succ, run_cons]; exact ih
theorem run_short (l : List UInt8) (h : l.length ≤ 4) : run 0 l = 0 ↔ ∀ b ∈ l, b = 0 := by
  have z : ∀ b : UInt8, b.toNat = 0 ↔ b = 0 := fun b => by
    constructor
    · intro h; exact UInt8.toNat_inj.1 h
    · rintro rfl; rfl
  have s0 : stp 0 0 = 0 := by unfold stp; exact it_zero 8
  have u := fun b : UInt8 => UInt8.toNat_lt b
  match l, h with
  | [], _ => simp [run]
  | [a], _ =>
    constructor
    · intro e
      have := four_bytes (u a) (u 0) (u 0) (u 0) (by show stp (stp (stp (run 0 [a]) 0) 0) 0 = 0; rw [e, s0, s0, s0])
      simp [← z, this.1]
    · intro e
      obtain rfl : a = 0 := e a (by simp)
      exact run_zeros 1
  | [a, b], _ =>
    constructor
    · intro e
      have := four_bytes (u a) (u b) (u 0) (u 0) (by show stp (stp (run 0 [a, b]) 0) 0 = 0; rw [e, s0, s0])
      simp [← z, this.1, this.2.1]
    · intro e
      obtain rfl : a = 0 := e a (by simp)
      obtain rfl : b = 0 := e b (by simp)
      exact run_zeros 2
  | [a, b, c], _ =>
    constructor
    · intro e
      have := four_bytes (u a) (u b) (u c) (u 0) (by show stp (run 0 [a, b, c]) 0 = 0; rw [e, s0])
      simp [← z, this.1, this.2.1, this.2.2.1]
    · intro e
      obtain rfl : a = 0 := e a (by simp)
      obtain rfl : b = 0 := e b (by simp)
      obtain rfl : c = 0 := e c (by simp)
      exact run_zeros 3
  | [a, b, c, d], _ =>
    constructor
    · intro e
      have := four_bytes (u a) (u b) (u c) (u d) e
      simp [← z, this.1, this.2.1, this.2.2.1, this.2.2.2]
    · intro e
      obtain rfl : a = 0 := e a (by simp)
      obtain rfl : b = 0 := e b (by simp)
      obtain rfl : c = 0 := e c (by simp)
      obtain rfl : d = 0 := e d (by simp)
      exact run_zeros 4
theorem run_lone (p q : Nat) (l : List UInt8) (h : l.length ≤ 4) : run 0 (List.replicate p 0 ++ l ++ List.replicate q 0) = 0 ↔ ∀ b ∈ l, b = 0 := by
  rw [run_append, run_append, run_zeros, ← run_short l h]
  have := run_inj (List.replicate q 0) (c := run 0 l) (d := 0) (run_lt l (by decide)) (by decide)
  rw [run_zeros] at this
  exact this
/-- l with bs laid over it by exclusive or from place p on -/
def mixed (l : List UInt8) (p : Nat) (bs : List UInt8) : List UInt8 := l.mapIdx fun j b => if p ≤ j then b ^^^ (bs[j - p]?).getD 0 else b
theorem mixed_length (l : List UInt8) (p : Nat) (bs : List UInt8) : (mixed l p bs).length = l.length := by simp [mixed]
theorem mixed_nil (l : List UInt8) (p : Nat) : mixed l p [] = l := by
  apply List.ext_getElem
  · simp [mixed]
  · intro j h1 h2
    simp [mixed]
theorem mixed_set (l : List UInt8) (p : Nat) (bs : List UInt8) (k : Nat) (hk : k < bs.length) (hp : p + k < l.length) : (mixed l p (bs.take k)).set (p + k) (l[p + k] ^^^ bs[k]) = mixed l p (bs.take (k + 1)) := by
  apply List.ext_getElem
  · simp [mixed]
  · intro j h1 h2
    rw [List.getElem_set]
    by_cases e : p + k = j
    · subst e
      simp [mixed, hk]
    · rw [if_neg e]
      simp only [mixed, List.getElem_mapIdx]
      by_cases hpj : p ≤ j
      · simp only [if_pos hpj]
        rw [List.getElem?_take, List.getElem?_take]
        by_cases hj : j - p < k
        · rw [if_pos hj, if_pos (by omega)]
        · rw [if_neg hj, if_neg (by omega)]
      · simp only [if_neg hpj]
theorem mixed_dif (l : List UInt8) (p : Nat) (bs : List UInt8) (hp : p + bs.length ≤ l.length) : dif (mixed l p bs) l = List.replicate p 0 ++ bs ++ List.replicate (l.length - p - bs.length) 0 := by
  apply List.ext_getElem
  · simp [dif, mixed]; omega
  · intro j h1 h2
    simp only [dif, mixed, List.getElem_zipWith, List.getElem_mapIdx]
    by_cases hj : p ≤ j
    · rw [if_pos hj]
      have e0 : ∀ a b : UInt8, a ^^^ b ^^^ a = b := fun a b => by rw [UInt8.xor_comm, ← UInt8.xor_assoc, UInt8.xor_self, UInt8.zero_xor]
      rw [e0]
      by_cases hj2 : j < p + bs.length
      · rw [List.getElem_append_left (by simp; omega), List.getElem_append_right (by simp; omega)]
        simp
        rw [List.getElem?_eq_getElem (by omega)]
        rfl
      · rw [List.getElem_append_right (by simp; omega), List.getElem?_eq_none (by omega)]
        simp
    · rw [if_neg hj, List.getElem_append_left (by simp; omega), List.getElem_append_left (by simp; omega)]
      simp
theorem crc_mixed (l : List UInt8) (p : Nat) (bs : List UInt8) (hb : bs.length ≤ 4) (hp : p + bs.length ≤ l.length) : crc (mixed l p bs) = crc l ↔ ∀ b ∈ bs, b = 0 := by
  have h1 : crc (mixed l p bs) = crc l ↔ run 4294967295 (mixed l p bs) ^^^ run 4294967295 l = 0 := by
    constructor
    · intro e
      have e1 := xor_cancel (run 4294967295 (mixed l p bs)) 4294967295
      have e2 := xor_cancel (run 4294967295 l) 4294967295
      unfold crc at e
      rw [e, e2] at e1
      rw [e1, Nat.xor_self]
    · intro e
      unfold crc
      rw [xor_zero_eq e]
  rw [h1, run_dif _ _ _ _ (mixed_length l p bs), Nat.xor_self, mixed_dif l p bs hp, run_lone _ _ _ hb]

end Go.Proofs.Ytbfhlleipeipbaa
