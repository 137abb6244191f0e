/-
  What is proved: contract of the document's Decimal. Conditions: those in each statement.
-/
import Derived.Test.YtnmailhlncchmaaDoorXm
import Derived.Test.YtnmailhlncchmaaDoorUg
import Derived.Test.YtnmailhlncchmaaDoorBlk
import Derived.Deep.LoopGhost
namespace Go.Proofs.YtnmailhlncchmaaDoor
open Go.RowKit

theorem own_bel' {w w' : World} {base n : Nat} {v : Value} {xs : List Value} (h : w.ownsRow base 5 1 v n xs) (hb : Below w.heap.size w w') : w'.ownsRow base 5 1 v n xs :=
  h.kept (row := none) ⟨hb.os, hb.tape, hb.output, hb.size, fun k hk _ => hb.block k hk⟩ (by cases hv : v.ownBlock <;> simp)
theorem own_fresh (w : World) (l : List UInt8) (hl : l.length ≤ 1048576) {base : Nat} (hb : base ≤ w.heap.size) : (w.alloc (.cells (bv l).toArray 5)).ownsRow base 5 1 (.slice (some ⟨w.heap.size, 0, none⟩) l.length l.length) l.length (bv l) := by
  refine ⟨by rw [bv_length, Nat.mul_one], .inr ⟨w.heap.size, l.length, (bv l).toArray, rfl, hb, heap_at _ _ _ rfl, Nat.le_refl _, by unfold maxLen; omega, by simp [bv_length], ?_⟩⟩
  rw [Nat.mul_one, List.take_of_length_le (by simp [bv_length])]
/-- the digit of a number -/
def dg (u : Nat) : UInt8 := UInt8.ofNat (48 + u % 10)
theorem dg_nat (u : Nat) : (dg u).toNat = 48 + u % 10 := by unfold dg; simp only [UInt8.toNat_ofNat']; omega
theorem dig_on (N u : Nat) (l : List UInt8) (h : Lib.decDigits N = Lib.decDigits u ++ l) (h1 : ¬ u < 10) : Lib.decDigits N = Lib.decDigits (u / 10) ++ (dg u :: l) := by
  rw [h, Lib.decDigits, dif_neg h1, List.append_assoc]; rfl
theorem dig_end (N u : Nat) (l : List UInt8) (h : Lib.decDigits N = Lib.decDigits u ++ l) (h1 : u < 10) : Lib.decDigits N = dg u :: l := by
  rw [h, Lib.decDigits, dif_pos h1]
  show UInt8.ofNat (48 + u) :: l = _
  unfold dg
  rw [Nat.mod_eq_of_lt h1]
theorem own_dg (W : World) (u : Nat) : (W.alloc (.cells #[Value.int .u8 (48 + (u : Int) % 10)] 5)).ownsRow W.heap.size 5 1 (.slice (some ⟨W.heap.size, 0, none⟩) 1 1) 1 (bv [dg u]) := by
  have h := own_fresh W [dg u] (by simp) (Nat.le_refl _)
  have e : (bv [dg u]).toArray = #[Value.int .u8 (48 + (u : Int) % 10)] := by
    simp only [bv, List.map_cons, List.map_nil, dg_nat]
    congr 2
  rw [e] at h
  exact h
set_option maxHeartbeats 4000000 in
set_option maxRecDepth 100000 in
theorem dec_nat (w : World) (N : Nat) (hN : N ≤ 9223372036854775808) (n : Int) (hn : n = (N : Int) ∧ N ≤ 9223372036854775807 ∨ n = -(N : Int) ∧ 1 ≤ N) : Calls Tryd.prog 32 #[.int .i64 n] w fun e w' => e = .returned (.string ⟨(Lib.itoa n).toArray⟩) ∧ Below w.heap.size w w' := by
  have HI : Hid (Lib.itoa n = if n < 0 then 45 :: Lib.decDigits N else Lib.decDigits N) := Lib.hid (by
    unfold Lib.itoa
    rcases hn with ⟨h, _⟩ | ⟨h, h1⟩
    · rw [if_neg (by omega), if_neg (by omega)]; congr 1; omega
    · rw [if_pos (by omega), if_pos (by omega)]; congr 2; omega)
  by_cases hs : n < 0
  · have hu : IntKind.u64.wrap (-(IntKind.u64.wrap n)) = (N : Int) := by
      rw [IntKind.wrap_u64, IntKind.wrap_u64]; omega
    go_enter Tryd.func32, Tryd.ntmps32
    go_wp2
    go_loopg [3, 4] N (fun kx v3 v4 wr => ∃ (u : Nat) (A : Option Addr) (m c : Nat) (l : List UInt8), v4 = .int .u64 (u : Int) ∧ v3 = .slice A m c ∧ u ≤ N ∧ u ≤ kx ∧ l.length ≤ 20 ∧ Hid (Hold wr A m c l) ∧ Hid (Lib.decDigits N = Lib.decDigits u ++ l) ∧ Hid (Below w.heap.size w wr))
    case atStart => exact ⟨N, none, 0, 0, [], rfl, rfl, Nat.le_refl _, Nat.le_refl _, by simp, Lib.hid (Hold.nil _), Lib.hid (List.append_nil _).symm, Lib.hid (Below.refl _ _)⟩
    case round =>
      obtain ⟨u, A, m, c, l, rfl, rfl, hu1, hkx, hll, HH, HD, HB⟩ := hrel
      have hm : l.length = m := HH.out.len
      by_cases h10 : u < 10
      · have hq : (u : Int) / 10 = 0 := by omega
        have HE := Lib.hid (dig_end N u l HD.out h10)
        clear HD
        go_wp2_with (first
          | (at_builtin; refine wpList_append_hold rfl (.tmp 15) (.tmp 16) rfl wr.heap.size (.slice (some ⟨wr.heap.size, 0, none⟩) 1 1) 1 [dg u] rfl (own_dg wr u) A m c l rfl (HH.out.below ((Below.refl _ wr).alloc (Nat.le_refl _) _)) (by omega) (by simp) ?_; intro A1 c1 w1 hown1 hgrow1; have HH1 := Lib.hid (Hold.of_own hown1); have HB1 := Lib.hid ((HB.out.alloc HB.out.size _).grown hgrow1 (by have := HB.out.size; simp; omega) (fun k hk => by simp [Value.ownBlock] at hk; have := HB.out.size; omega)); clear hown1 hgrow1; have hcv := conv_hold HH1.out))
        go_ret
        exact ⟨by rw [HI.out, if_pos hs, HE.out]; rfl, HB1.out⟩
      · have hq : ¬ (u : Int) / 10 = 0 := by omega
        have HE := Lib.hid (dig_on N u l HD.out h10)
        clear HD
        go_wp2_with (first
          | (at_builtin; refine wpList_append_hold rfl (.tmp 15) (.tmp 16) rfl wr.heap.size (.slice (some ⟨wr.heap.size, 0, none⟩) 1 1) 1 [dg u] rfl (own_dg wr u) A m c l rfl (HH.out.below ((Below.refl _ wr).alloc (Nat.le_refl _) _)) (by omega) (by simp) ?_; intro A1 c1 w1 hown1 hgrow1; have HH1 := Lib.hid (Hold.of_own hown1); have HB1 := Lib.hid ((HB.out.alloc HB.out.size _).grown hgrow1 (by have := HB.out.size; simp; omega) (fun k hk => by simp [Value.ownBlock] at hk; have := HB.out.size; omega)); clear hown1 hgrow1))
        go_roundg (u / 10)
        case measure => omega
        case rel => exact ⟨u / 10, A1, 1 + m, c1, dg u :: l, by go_num, rfl, by omega, Nat.le_refl _, (by have h1 := digits_len N 18 (by omega); have h2 := congrArg List.length HE.out; simp only [List.length_append, List.length_cons] at h2 ⊢; omega), HH1, HE, HB1⟩
  · have hu : IntKind.u64.wrap n = (N : Int) := by
      rw [IntKind.wrap_u64]; omega
    go_enter Tryd.func32, Tryd.ntmps32
    go_wp2
    go_loopg [3, 4] N (fun kx v3 v4 wr => ∃ (u : Nat) (A : Option Addr) (m c : Nat) (l : List UInt8), v4 = .int .u64 (u : Int) ∧ v3 = .slice A m c ∧ u ≤ N ∧ u ≤ kx ∧ l.length ≤ 20 ∧ Hid (Hold wr A m c l) ∧ Hid (Lib.decDigits N = Lib.decDigits u ++ l) ∧ Hid (Below w.heap.size w wr))
    case atStart => exact ⟨N, none, 0, 0, [], rfl, rfl, Nat.le_refl _, Nat.le_refl _, by simp, Lib.hid (Hold.nil _), Lib.hid (List.append_nil _).symm, Lib.hid (Below.refl _ _)⟩
    case round =>
      obtain ⟨u, A, m, c, l, rfl, rfl, hu1, hkx, hll, HH, HD, HB⟩ := hrel
      have hm : l.length = m := HH.out.len
      by_cases h10 : u < 10
      · have hq : (u : Int) / 10 = 0 := by omega
        have HE := Lib.hid (dig_end N u l HD.out h10)
        clear HD
        go_wp2_with (first
          | (at_builtin; refine wpList_append_hold rfl (.tmp 15) (.tmp 16) rfl wr.heap.size (.slice (some ⟨wr.heap.size, 0, none⟩) 1 1) 1 [dg u] rfl (own_dg wr u) A m c l rfl (HH.out.below ((Below.refl _ wr).alloc (Nat.le_refl _) _)) (by omega) (by simp) ?_; intro A1 c1 w1 hown1 hgrow1; have HH1 := Lib.hid (Hold.of_own hown1); have HB1 := Lib.hid ((HB.out.alloc HB.out.size _).grown hgrow1 (by have := HB.out.size; simp; omega) (fun k hk => by simp [Value.ownBlock] at hk; have := HB.out.size; omega)); clear hown1 hgrow1; have hcv := conv_hold HH1.out))
        go_ret
        exact ⟨by rw [HI.out, if_neg (by omega), HE.out]; rfl, HB1.out⟩
      · have hq : ¬ (u : Int) / 10 = 0 := by omega
        have HE := Lib.hid (dig_on N u l HD.out h10)
        clear HD
        go_wp2_with (first
          | (at_builtin; refine wpList_append_hold rfl (.tmp 15) (.tmp 16) rfl wr.heap.size (.slice (some ⟨wr.heap.size, 0, none⟩) 1 1) 1 [dg u] rfl (own_dg wr u) A m c l rfl (HH.out.below ((Below.refl _ wr).alloc (Nat.le_refl _) _)) (by omega) (by simp) ?_; intro A1 c1 w1 hown1 hgrow1; have HH1 := Lib.hid (Hold.of_own hown1); have HB1 := Lib.hid ((HB.out.alloc HB.out.size _).grown hgrow1 (by have := HB.out.size; simp; omega) (fun k hk => by simp [Value.ownBlock] at hk; have := HB.out.size; omega)); clear hown1 hgrow1))
        go_roundg (u / 10)
        case measure => omega
        case rel => exact ⟨u / 10, A1, 1 + m, c1, dg u :: l, by go_num, rfl, by omega, Nat.le_refl _, (by have h1 := digits_len N 18 (by omega); have h2 := congrArg List.length HE.out; simp only [List.length_append, List.length_cons] at h2 ⊢; omega), HH1, HE, HB1⟩
theorem decimal_any (w : World) (n : Int) (h : In64 n) : Calls Tryd.prog 32 #[.int .i64 n] w fun e w' => e = .returned (.string ⟨(Lib.itoa n).toArray⟩) ∧ Below w.heap.size w w' := by
  unfold In64 at h
  exact dec_nat w n.natAbs (by omega) n (by omega)
end Go.Proofs.YtnmailhlncchmaaDoor
