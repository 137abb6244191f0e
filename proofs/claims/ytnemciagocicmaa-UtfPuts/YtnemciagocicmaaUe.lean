/-
  What is proved: contracts of the closure of utf's Put, of the document's Bits and of the document's Put. Conditions: those in each statement.
-/
import Derived.Test.YtnemciagocicmaaUc
import Derived.Test.YtnemciagocicmaaOwn
namespace Go.Proofs.Ytnemciagocicmaa
open Go.RowKit

theorem and63i (a : Nat) (h : a < 2147483648) : bits .and .i32 (a : Int) 63 = ((a % 64 : Nat) : Int) := by
  rw [show (63 : Int) = ((63 : Nat) : Int) from rfl, i32_and_nat a 63 h (by omega), nat_mask6]
theorem or_join (k a b : Nat) (h : a % 2 ^ k = 0) (hb : b < 2 ^ k) (ha : a < 256) (hk : 2 ^ k < 256) : bits .or .i32 (a : Int) (b : Int) = (a : Int) + (b : Int) := by
  rw [i32_or_nat a b (by omega) (by omega), nat_join k a b h hb]
  omega
theorem or128 (b : Nat) (hb : b < 64) : bits .or .i32 128 (b : Int) = 128 + (b : Int) := or_join 6 128 b rfl hb (by omega) (by omega)
theorem or192 (b : Nat) (hb : b < 32) : bits .or .i32 192 (b : Int) = 192 + (b : Int) := or_join 5 192 b rfl hb (by omega) (by omega)
theorem or224 (b : Nat) (hb : b < 16) : bits .or .i32 224 (b : Int) = 224 + (b : Int) := or_join 4 224 b rfl hb (by omega) (by omega)
theorem or240 (b : Nat) (hb : b < 8) : bits .or .i32 240 (b : Int) = 240 + (b : Int) := or_join 3 240 b rfl hb (by omega) (by omega)

theorem tail0_any (r g : Nat) (w : World) (hr : r ≤ 1114111) (hc : w.cell? ⟨g, 0, none⟩ = some (.int .i32 (r : Int))) :
    Calls Try.prog 24 #[.int .i64 0, .pointer (some ⟨g, 0, none⟩)] w fun e w' => e = .returned (.int .u8 (128 + (r % 64 : Nat))) ∧ w = w' := by
  have h1 := and63i (r) (by omega)
  have h2 := or128 (r % 64) (by omega)
  have h3 : r % 64 < 64 := by omega
  generalize r % 64 = c at *
  go_enter Try.func24, Try.ntmps24
  go_wp2
  go_ret
  exact ⟨by go_num, rfl⟩
theorem tail6_any (r g : Nat) (w : World) (hr : r ≤ 1114111) (hc : w.cell? ⟨g, 0, none⟩ = some (.int .i32 (r : Int))) :
    Calls Try.prog 24 #[.int .i64 6, .pointer (some ⟨g, 0, none⟩)] w fun e w' => e = .returned (.int .u8 (128 + (r / 64 % 64 : Nat))) ∧ w = w' := by
  have h0 : (r : Int) / 64 = ((r / 64 : Nat) : Int) := by omega
  have h1 := and63i (r / 64) (by omega)
  have h2 := or128 (r / 64 % 64) (by omega)
  have h3 : r / 64 % 64 < 64 := by omega
  generalize r / 64 % 64 = c at *
  generalize r / 64 = q at *
  go_enter Try.func24, Try.ntmps24
  go_wp2
  go_ret
  exact ⟨by go_num, rfl⟩
theorem tail12_any (r g : Nat) (w : World) (hr : r ≤ 1114111) (hc : w.cell? ⟨g, 0, none⟩ = some (.int .i32 (r : Int))) :
    Calls Try.prog 24 #[.int .i64 12, .pointer (some ⟨g, 0, none⟩)] w fun e w' => e = .returned (.int .u8 (128 + (r / 4096 % 64 : Nat))) ∧ w = w' := by
  have h0 : (r : Int) / 4096 = ((r / 4096 : Nat) : Int) := by omega
  have h1 := and63i (r / 4096) (by omega)
  have h2 := or128 (r / 4096 % 64) (by omega)
  have h3 : r / 4096 % 64 < 64 := by omega
  generalize r / 4096 % 64 = c at *
  generalize r / 4096 = q at *
  go_enter Try.func24, Try.ntmps24
  go_wp2
  go_ret
  exact ⟨by go_num, rfl⟩
theorem bits_6_5 (r : Nat) (w : World) (hr : r ≤ 1114111) :
    Calls Try.prog 27 #[.int .i32 (r : Int), .int .u64 6, .int .u64 5] w fun e w' => e = .returned (.int .u8 ((r / 64 % 32 : Nat) : Int)) ∧ w = w' := by
  go_enter Try.func27, Try.ntmps27
  go_wp2
  go_ret
  exact ⟨by show Ending.returned (Value.int .u8 _) = _; congr 2, rfl⟩
theorem bits_0_6 (r : Nat) (w : World) (hr : r ≤ 1114111) :
    Calls Try.prog 27 #[.int .i32 (r : Int), .int .u64 0, .int .u64 6] w fun e w' => e = .returned (.int .u8 ((r % 64 : Nat) : Int)) ∧ w = w' := by
  go_enter Try.func27, Try.ntmps27
  go_wp2
  go_ret
  exact ⟨by show Ending.returned (Value.int .u8 _) = _; congr 2, rfl⟩
theorem bits_12_4 (r : Nat) (w : World) (hr : r ≤ 1114111) :
    Calls Try.prog 27 #[.int .i32 (r : Int), .int .u64 12, .int .u64 4] w fun e w' => e = .returned (.int .u8 ((r / 4096 % 16 : Nat) : Int)) ∧ w = w' := by
  go_enter Try.func27, Try.ntmps27
  go_wp2
  go_ret
  exact ⟨by show Ending.returned (Value.int .u8 _) = _; congr 2, rfl⟩
theorem bits_6_6 (r : Nat) (w : World) (hr : r ≤ 1114111) :
    Calls Try.prog 27 #[.int .i32 (r : Int), .int .u64 6, .int .u64 6] w fun e w' => e = .returned (.int .u8 ((r / 64 % 64 : Nat) : Int)) ∧ w = w' := by
  go_enter Try.func27, Try.ntmps27
  go_wp2
  go_ret
  exact ⟨by show Ending.returned (Value.int .u8 _) = _; congr 2, rfl⟩
theorem bits_18_3 (r : Nat) (w : World) (hr : r ≤ 1114111) :
    Calls Try.prog 27 #[.int .i32 (r : Int), .int .u64 18, .int .u64 3] w fun e w' => e = .returned (.int .u8 ((r / 262144 % 8 : Nat) : Int)) ∧ w = w' := by
  go_enter Try.func27, Try.ntmps27
  go_wp2
  go_ret
  exact ⟨by show Ending.returned (Value.int .u8 _) = _; congr 2, rfl⟩
theorem bits_12_6 (r : Nat) (w : World) (hr : r ≤ 1114111) :
    Calls Try.prog 27 #[.int .i32 (r : Int), .int .u64 12, .int .u64 6] w fun e w' => e = .returned (.int .u8 ((r / 4096 % 64 : Nat) : Int)) ∧ w = w' := by
  go_enter Try.func27, Try.ntmps27
  go_wp2
  go_ret
  exact ⟨by show Ending.returned (Value.int .u8 _) = _; congr 2, rfl⟩

theorem cast_byte {x : Int} (h0 : 0 ≤ x) (h1 : x < 256) : Value.int .u8 ((byteOf x).toNat : Int) = .int .u8 x := by
  have := byteOf_cast x
  rw [this]
  congr 1
  omega
theorem put_1 (m : Nat) (h : m < 128) : (bv (put (m : Int))).toArray = #[.int .u8 (m : Int)] := by
  unfold put
  rw [if_pos (by rw [isR_iff]; omega), if_pos (by omega)]
  simp only [bv, List.map_cons, List.map_nil]
  rw [cast_byte (by omega) (by omega)]
theorem put_2 (m : Nat) (h : m < 2048) (h0 : ¬ m < 128) : (bv (put (m : Int))).toArray = #[.int .u8 (192 + ((m / 64 % 32 : Nat) : Int)), .int .u8 (128 + ((m % 64 : Nat) : Int))] := by
  unfold put
  rw [if_pos (by rw [isR_iff]; omega), if_neg (by omega), if_pos (by omega)]
  simp only [bv, List.map_cons, List.map_nil]
  rw [cast_byte (by omega) (by omega), cast_byte (by omega) (by omega)]
  rw [show (192 + (m : Int) / 64) = 192 + ((m / 64 % 32 : Nat) : Int) by omega, show (128 + (m : Int) % 64) = 128 + ((m % 64 : Nat) : Int) by omega]
theorem put_3 (m : Nat) (hR : isR (m : Int)) (h : m < 65536) (h0 : ¬ m < 2048) : (bv (put (m : Int))).toArray = #[.int .u8 (224 + ((m / 4096 % 16 : Nat) : Int)), .int .u8 (128 + ((m / 64 % 64 : Nat) : Int)), .int .u8 (128 + ((m % 64 : Nat) : Int))] := by
  unfold put
  rw [if_pos hR, if_neg (by omega), if_neg (by omega), if_pos (by omega)]
  simp only [bv, List.map_cons, List.map_nil]
  rw [cast_byte (by omega) (by omega), cast_byte (by omega) (by omega), cast_byte (by omega) (by omega)]
  rw [show (224 + (m : Int) / 4096) = 224 + ((m / 4096 % 16 : Nat) : Int) by omega, show (128 + (m : Int) / 64 % 64) = 128 + ((m / 64 % 64 : Nat) : Int) by omega, show (128 + (m : Int) % 64) = 128 + ((m % 64 : Nat) : Int) by omega]
theorem put_4 (m : Nat) (hR : isR (m : Int)) (h0 : ¬ m < 65536) : (bv (put (m : Int))).toArray = #[.int .u8 (240 + ((m / 262144 % 8 : Nat) : Int)), .int .u8 (128 + ((m / 4096 % 64 : Nat) : Int)), .int .u8 (128 + ((m / 64 % 64 : Nat) : Int)), .int .u8 (128 + ((m % 64 : Nat) : Int))] := by
  have hm : m ≤ 1114111 := by rw [isR_iff] at hR; omega
  unfold put
  rw [if_pos hR, if_neg (by omega), if_neg (by omega), if_neg (by omega)]
  simp only [bv, List.map_cons, List.map_nil]
  rw [cast_byte (by omega) (by omega), cast_byte (by omega) (by omega), cast_byte (by omega) (by omega), cast_byte (by omega) (by omega)]
  rw [show (240 + (m : Int) / 262144) = 240 + ((m / 262144 % 8 : Nat) : Int) by omega, show (128 + (m : Int) / 4096 % 64) = 128 + ((m / 4096 % 64 : Nat) : Int) by omega, show (128 + (m : Int) / 64 % 64) = 128 + ((m / 64 % 64 : Nat) : Int) by omega, show (128 + (m : Int) % 64) = 128 + ((m % 64 : Nat) : Int) by omega]
/-- what the document's Put answers -/
def RowPost (w : World) (l : List UInt8) (e : Ending) (w' : World) : Prop := ∃ A n c, e = .returned (.slice A n c) ∧ Hold w' A n c l ∧ Below w.heap.size w w'
theorem RowPost.new {w : World} {l : List UInt8} {cs : Array Value} (h : (bv l).toArray = cs) {t : TypeId} {k n : Nat} (hk : k = w.heap.size) (hn : n = l.length) : RowPost w l (.returned (.slice (some ⟨k, 0, none⟩) n n)) (w.alloc (.cells cs t)) := by
  subst hn
  refine ⟨_, _, _, rfl, ?_, (Below.refl _ _).alloc (Nat.le_refl _) _⟩
  rw [← h]
  exact Hold.new w l t (0, 0) k hk
set_option maxRecDepth 100000 in
set_option maxHeartbeats 1000000 in
theorem refPut_any (r : Int) (w : World) : Calls Try.prog 10 #[.int .i32 r] w (RowPost w (put r)) := by
  by_cases hR : isR r
  · have HR := Lib.hid (show true = decide (isR r) from (decide_eq_true hR).symm)
    have hR' := hR
    rw [isR_iff] at hR'
    obtain ⟨m, rfl⟩ := Int.eq_ofNat_of_zero_le hR'.1
    have hm : m ≤ 1114111 := by omega
    have HI := Lib.hid hR
    clear hR hR'
    by_cases h1 : m < 128
    · have HP := Lib.hid (put_1 m h1)
      have HZ := Lib.hid (sz1 (r := (m : Int)) (by omega) (by omega))
      go_enter Try.func10, Try.ntmps10
      go_wp2_with (first
        | (go_at_call 26; refine (rune_is _ true HR.out _).mono ?_; rintro e w' ⟨rfl, rfl⟩))
      go_ret
      exact RowPost.new HP.out rfl (by rw [put_length, HZ.out])
    by_cases h2 : m < 2048
    · have HP := Lib.hid (put_2 m h2 h1)
      have HZ := Lib.hid (sz2 (r := (m : Int)) (by omega) (by omega))
      have hq1 : m / 64 % 32 < 32 := by omega
      have hq2 : m % 64 < 64 := by omega
      have B1 := fun W => Lib.hid (bits_6_5 m W hm)
      have B2 := fun W => Lib.hid (bits_0_6 m W hm)
      generalize m / 64 % 32 = q1 at *
      generalize m % 64 = q2 at *
      go_enter Try.func10, Try.ntmps10
      go_wp2_with (first
        | (go_at_call 26; refine (rune_is _ true HR.out _).mono ?_; rintro e w' ⟨rfl, rfl⟩)
        | (go_at_call 27; (with_reducible refine (B1 _).out.mono ?_); rintro e w' ⟨rfl, rfl⟩)
        | (go_at_call 27; (with_reducible refine (B2 _).out.mono ?_); rintro e w' ⟨rfl, rfl⟩))
      go_ret
      exact RowPost.new HP.out rfl (by rw [put_length, HZ.out])
    by_cases h3 : m < 65536
    · have HP := Lib.hid (put_3 m HI.out h3 h2)
      have HZ := Lib.hid (sz3 (r := (m : Int)) HI.out (by omega) (by omega))
      have g1 : ¬ (m : Int) < 128 := by omega
      have g2 : ¬ (m : Int) < 2048 := by omega
      have g3 : (m : Int) < 65536 := by omega
      have hq1 : m / 4096 % 16 < 16 := by omega
      have hq2 : m / 64 % 64 < 64 := by omega
      have hq3 : m % 64 < 64 := by omega
      have B1 := fun W => Lib.hid (bits_12_4 m W hm)
      have B2 := fun W => Lib.hid (bits_6_6 m W hm)
      have B3 := fun W => Lib.hid (bits_0_6 m W hm)
      generalize m / 4096 % 16 = q1 at *
      generalize m / 64 % 64 = q2 at *
      generalize m % 64 = q3 at *
      clear h1 h2 h3 hm
      generalize (m : Int) = z at *
      go_enter Try.func10, Try.ntmps10
      go_wp2_with (first
        | (go_at_call 26; refine (rune_is _ true HR.out _).mono ?_; rintro e w' ⟨rfl, rfl⟩)
        | (go_at_call 27; (with_reducible refine (B1 _).out.mono ?_); rintro e w' ⟨rfl, rfl⟩)
        | (go_at_call 27; (with_reducible refine (B2 _).out.mono ?_); rintro e w' ⟨rfl, rfl⟩)
        | (go_at_call 27; (with_reducible refine (B3 _).out.mono ?_); rintro e w' ⟨rfl, rfl⟩))
      go_ret
      exact RowPost.new HP.out rfl (by rw [put_length, HZ.out])
    · have HP := Lib.hid (put_4 m HI.out h3)
      have HZ := Lib.hid (sz4 (r := (m : Int)) HI.out (by omega))
      have g1 : ¬ (m : Int) < 128 := by omega
      have g2 : ¬ (m : Int) < 2048 := by omega
      have g3 : ¬ (m : Int) < 65536 := by omega
      have hq1 : m / 262144 % 8 < 8 := by omega
      have hq2 : m / 4096 % 64 < 64 := by omega
      have hq3 : m / 64 % 64 < 64 := by omega
      have hq4 : m % 64 < 64 := by omega
      have B1 := fun W => Lib.hid (bits_18_3 m W hm)
      have B2 := fun W => Lib.hid (bits_12_6 m W hm)
      have B3 := fun W => Lib.hid (bits_6_6 m W hm)
      have B4 := fun W => Lib.hid (bits_0_6 m W hm)
      generalize m / 262144 % 8 = q1 at *
      generalize m / 4096 % 64 = q2 at *
      generalize m / 64 % 64 = q3 at *
      generalize m % 64 = q4 at *
      clear h1 h2 h3 hm
      generalize (m : Int) = z at *
      go_enter Try.func10, Try.ntmps10
      go_wp2_with (first
        | (go_at_call 26; refine (rune_is _ true HR.out _).mono ?_; rintro e w' ⟨rfl, rfl⟩)
        | (go_at_call 27; (with_reducible refine (B1 _).out.mono ?_); rintro e w' ⟨rfl, rfl⟩)
        | (go_at_call 27; (with_reducible refine (B2 _).out.mono ?_); rintro e w' ⟨rfl, rfl⟩)
        | (go_at_call 27; (with_reducible refine (B3 _).out.mono ?_); rintro e w' ⟨rfl, rfl⟩)
        | (go_at_call 27; (with_reducible refine (B4 _).out.mono ?_); rintro e w' ⟨rfl, rfl⟩))
      go_ret
      exact RowPost.new HP.out rfl (by rw [put_length, HZ.out])
  · have HR := Lib.hid (show false = decide (isR r) from (decide_eq_false hR).symm)
    have HP := Lib.hid (put_not hR)
    clear hR
    go_enter Try.func10, Try.ntmps10
    go_wp2_with (go_at_call 26; refine (rune_is _ false HR.out _).mono ?_; rintro e w' ⟨rfl, rfl⟩)
    go_ret
    exact ⟨none, 0, 0, rfl, by rw [HP.out]; exact Hold.nil _, Below.refl _ _⟩
end Go.Proofs.Ytnemciagocicmaa
