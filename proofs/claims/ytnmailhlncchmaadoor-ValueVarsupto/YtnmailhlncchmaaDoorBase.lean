/-
  What is proved: plain facts on bytes, and on slices of bytes in memory, that the walks of this seat use. No condition but those in each statement.
-/
import Derived.WalkKit
import Derived.WalkSpells
import Derived.WalkLawsBesides
import Derived.Lib.Hide
import Derived.Lib.AppendStr
import Derived.Laws.IdiomStrings
import Derived.Deep.Draws
namespace Go.Proofs.YtnmailhlncchmaaDoor
open Go.RowKit

/-! ### bytes and numbers -/
def byteOf (x : Int) : UInt8 := UInt8.ofNat (x % 256).toNat
theorem byteOf_cast (x : Int) : ((byteOf x).toNat : Int) = x % 256 := by
  have h : (byteOf x).toNat = (x % 256).toNat := by
    unfold byteOf
    simp only [UInt8.toNat_ofNat']
    omega
  omega
def dig (n : Int) : List UInt8 :=
  [byteOf (IntKind.u64.wrap n / 256 / 256 / 256 / 256 / 256 / 256 / 256), byteOf (IntKind.u64.wrap n / 256 / 256 / 256 / 256 / 256 / 256),
   byteOf (IntKind.u64.wrap n / 256 / 256 / 256 / 256 / 256), byteOf (IntKind.u64.wrap n / 256 / 256 / 256 / 256),
   byteOf (IntKind.u64.wrap n / 256 / 256 / 256), byteOf (IntKind.u64.wrap n / 256 / 256), byteOf (IntKind.u64.wrap n / 256), byteOf (IntKind.u64.wrap n)]
theorem dig_length (n : Int) : (dig n).length = 8 := rfl
/-- what bytes say, the highest first -/
def num (l : List UInt8) : Nat := l.foldl (fun a b => a * 256 + b.toNat) 0
theorem num_snoc (l : List UInt8) (b : UInt8) : num (l ++ [b]) = num l * 256 + b.toNat := by simp [num]
theorem num_lt_aux (l : List UInt8) : ∀ a : Nat, l.foldl (fun a b => a * 256 + b.toNat) a < (a + 1) * 256 ^ l.length := by
  induction l with
  | nil => intro a; simp
  | cons b l ih =>
    intro a
    rw [List.foldl_cons, List.length_cons, Nat.pow_succ]
    have h1 := ih (a * 256 + b.toNat)
    have h2 := b.toNat_lt
    have h3 : (a * 256 + b.toNat + 1) * 256 ^ l.length ≤ (a + 1) * (256 ^ l.length * 256) := by
      rw [Nat.mul_comm (256 ^ l.length) 256, ← Nat.mul_assoc]
      exact Nat.mul_le_mul_right _ (by omega)
    omega
theorem num_lt (l : List UInt8) : num l < 256 ^ l.length := by
  have := num_lt_aux l 0
  simpa [num] using this
/-- the number of eight bytes -/
def rd (l : List UInt8) : Int := wrap64 (num l)
theorem wrap_u64 (n : Int) : IntKind.u64.wrap n = n % 18446744073709551616 := by
  rw [IntKind.wrap_u64]
theorem num_dig (n : Int) : (num (dig n) : Int) = IntKind.u64.wrap n := by
  have h := wrap_u64 n
  have h0 : 0 ≤ IntKind.u64.wrap n ∧ IntKind.u64.wrap n < 18446744073709551616 := by omega
  simp only [num, dig, List.foldl_cons, List.foldl_nil]
  generalize IntKind.u64.wrap n = u at *
  have c := byteOf_cast
  have e1 := c (u / 256 / 256 / 256 / 256 / 256 / 256 / 256)
  have e2 := c (u / 256 / 256 / 256 / 256 / 256 / 256)
  have e3 := c (u / 256 / 256 / 256 / 256 / 256)
  have e4 := c (u / 256 / 256 / 256 / 256)
  have e5 := c (u / 256 / 256 / 256)
  have e6 := c (u / 256 / 256)
  have e7 := c (u / 256)
  have e8 := c u
  omega
theorem rd_dig (n : Int) (h1 : -9223372036854775808 ≤ n) (h2 : n ≤ 9223372036854775807) : rd (dig n) = n := by
  unfold rd
  rw [num_dig, ← IntWalk.i64_left, IntKind.wrap_i64, wrap_u64]
  omega
theorem rd_bounds (l : List UInt8) : -9223372036854775808 ≤ rd l ∧ rd l ≤ 9223372036854775807 := by
  unfold rd
  rw [← IntWalk.i64_left, IntKind.wrap_i64]
  omega

/-! ### bytes in memory -/
def bv (l : List UInt8) : List Value := l.map fun b => Value.int .u8 (b.toNat : Int)
theorem bv_length (l : List UInt8) : (bv l).length = l.length := by simp [bv]
theorem bv_append (l m : List UInt8) : bv (l ++ m) = bv l ++ bv m := by simp [bv]
theorem bv_one (l : List UInt8) : ∀ u ∈ bv l, u.oneCell' = true := by
  intro u hu
  obtain ⟨_, _, rfl⟩ := List.mem_map.1 hu
  rfl
theorem bv_str (s : ByteArray) : Lib.strCells s = bv s.data.toList := rfl
theorem bv_get (l : List UInt8) (j : Nat) (u : Value) : (bv l)[j]? = some u ↔ ∃ h : j < l.length, u = .int .u8 (l[j].toNat : Int) := by
  unfold bv
  rw [List.getElem?_map]
  constructor
  · intro h
    obtain ⟨b, hb, rfl⟩ := Option.map_eq_some_iff.1 h
    obtain ⟨hj, rfl⟩ := List.getElem?_eq_some_iff.1 hb
    exact ⟨hj, rfl⟩
  · rintro ⟨h, rfl⟩
    simp [List.getElem?_eq_getElem h]

/-- The slice value '.slice A n c' reads as the bytes l. -/
def Hold (w : World) (A : Option Addr) (n c : Nat) (l : List UInt8) : Prop :=
  l.length = n ∧ n ≤ c ∧ (A = none → c = 0) ∧ (0 < n → ∃ b off, A = some ⟨b, off, none⟩ ∧ ∀ j (hj : j < l.length), w.cell? ⟨b, off + j, none⟩ = some (.int .u8 (l[j].toNat : Int)))

section
variable {w w' : World} {A : Option Addr} {n c : Nat} {l : List UInt8}
theorem Hold.len (h : Hold w A n c l) : l.length = n := h.1
theorem Hold.below (h : Hold w A n c l) (hb : Below w.heap.size w w') : Hold w' A n c l := by
  refine ⟨h.1, h.2.1, h.2.2.1, fun hn => ?_⟩
  obtain ⟨b, off, e, hc⟩ := h.2.2.2 hn
  exact ⟨b, off, e, fun j hj => cell_later hb (hc j hj)⟩
theorem Hold.drewN (h : Hold w A n c l) (k : Nat) : Hold (w.drewN k) A n c l := h
theorem Hold.drew (h : Hold w A n c l) : Hold w.drew A n c l := h
theorem Hold.nil (w : World) : Hold w none 0 0 [] := ⟨rfl, Nat.le_refl _, fun _ => rfl, fun h => absurd h (by omega)⟩
theorem Hold.at {k : Nat} (h : Hold w A n c l) (hk : k < n) : ∃ b off, ∃ hl : k < l.length, A = some ⟨b, off, none⟩ ∧ w.cell? ⟨b, off + k, none⟩ = some (.int .u8 (l[k].toNat : Int)) := by
  obtain ⟨b, off, e, hc⟩ := h.2.2.2 (by omega)
  have hl : k < l.length := by rw [h.1]; exact hk
  exact ⟨b, off, hl, e, hc k hl⟩
theorem Hold.none_ (h : Hold w A n c l) : A = none → n = 0 ∧ c = 0 := fun e => by
  have := h.2.2.1 e
  have := h.2.1
  omega
theorem Hold.cells (h : Hold w A n c l) : ∀ ad, A = some ad → ∀ j u, (bv l)[j]? = some u → w.cell? (ad.add j) = some u := by
  intro ad e j u hu
  obtain ⟨hj, rfl⟩ := (bv_get l j u).1 hu
  obtain ⟨b, off, e', hc⟩ := h.2.2.2 (by rw [← h.1]; omega)
  rw [e] at e'
  obtain rfl := Option.some.inj e'
  rw [Addr.add_lit]
  exact hc j hj
theorem Hold.of_own {base : Nat} (h : w.ownsRow base 5 1 (.slice A n c) n (bv l)) : Hold w A n c l := by
  have hl : l.length = n := by simpa [bv_length] using h.1
  rcases h.2 with ⟨hv, h0⟩ | ⟨g, cap, cur, hv, hb, hg, hnc, hm, hs, ht⟩
  · injection hv with h1 h2 h3
    subst h1 h2 h3
    exact ⟨hl, Nat.le_refl _, fun _ => rfl, fun h => absurd h (by omega)⟩
  · injection hv with h1 h2 h3
    subst h1 h3
    refine ⟨hl, hnc, (fun e => by cases e), fun hn => ⟨g, 0, rfl, fun j hj => ?_⟩⟩
    have := h.cells (g := g) rfl j (.int .u8 (l[j].toNat : Int)) ((bv_get l j _).2 ⟨hj, rfl⟩)
    rwa [Addr.add_lit] at this
/-- the first k bytes -/
theorem Hold.take (h : Hold w A n c l) {k : Nat} (hk : k ≤ n) : Hold w A k c (l.take k) := by
  have := h.1
  refine ⟨by simp; omega, by have := h.2.1; omega, h.2.2.1, fun h0 => ?_⟩
  obtain ⟨b, off, e, hc⟩ := h.2.2.2 (by omega)
  refine ⟨b, off, e, fun j hj => ?_⟩
  have hj' : j < l.length := by simp at hj; omega
  rw [hc j hj', List.getElem_take]
/-- the bytes from k on -/
theorem Hold.drop (h : Hold w A n c l) {k : Nat} (hk : k ≤ n) {A' : Option Addr} (hA : c ≠ k → A' = A.map (·.add k)) (hA0 : c = k → A' = A) : Hold w A' (n - k) (c - k) (l.drop k) := by
  have hl := h.1
  have hc := h.2.1
  refine ⟨by simp; omega, by omega, fun e => ?_, fun h0 => ?_⟩
  · by_cases hck : c = k
    · omega
    · rw [hA hck] at e
      cases A with
      | none => have := h.2.2.1 rfl; omega
      | some a => cases e
  · obtain ⟨b, off, e, hcl⟩ := h.2.2.2 (by omega)
    subst e
    refine ⟨b, off + k, by rw [hA (by omega)]; simp [Addr.add_lit], fun j hj => ?_⟩
    have hj' : k + j < l.length := by simp at hj; omega
    rw [Nat.add_assoc, hcl (k + j) hj', List.getElem_drop]
end

/-- A part: where it lies, how long it is, its room, its bytes. -/
abbrev Part := Option Addr × Nat × Nat × List UInt8
def Part.val (p : Part) : Value := .slice p.1 p.2.1 p.2.2.1
def tot (ps : List Part) : Nat := (ps.map (·.2.1)).sum
def cat (ps : List Part) : List UInt8 := (ps.map (·.2.2.2)).flatten
theorem tot_snoc (ps : List Part) (k : Nat) (h : k < ps.length) : tot (ps.take (k + 1)) = tot (ps.take k) + ps[k].2.1 := by
  unfold tot; rw [List.take_succ_eq_append_getElem h, List.map_append, List.sum_append]; simp
theorem cat_snoc (ps : List Part) (k : Nat) (h : k < ps.length) : cat (ps.take (k + 1)) = cat (ps.take k) ++ ps[k].2.2.2 := by
  unfold cat; rw [List.take_succ_eq_append_getElem h, List.map_append, List.flatten_append]; simp
theorem tot_le (ps : List Part) (k : Nat) : tot (ps.take k) ≤ tot ps := by
  have h : tot ps = tot (ps.take k) + tot (ps.drop k) := by
    conv => lhs; rw [← List.take_append_drop k ps]
    simp only [tot, List.map_append, List.sum_append]
  omega
theorem tot_le' (ps : List Part) (k : Nat) (h : k < ps.length) : tot (ps.take k) + ps[k].2.1 ≤ tot ps := by
  rw [← tot_snoc ps k h]
  exact tot_le ps (k + 1)

end Go.Proofs.YtnmailhlncchmaaDoor
