/-
  What is proved: contract of utf's Put. Conditions: those in each statement.
-/
import Derived.Test.YtnmailhlncchmaaDoorUc
import Derived.Test.YtnmailhlncchmaaDoorOwn
import Derived.Test.YtnmailhlncchmaaDoorSsa
namespace Go.Proofs.YtnmailhlncchmaaDoor
open Go.RowKit

theorem and63i (a : Nat) (h : a < 2147483648) : bits .and .i32 (a : Int) 63 = ((a % 64 : Nat) : Int) := by
  rw [show (63 : Int) = ((63 : Nat) : Int) from rfl, i32_and_nat a 63 h (by omega), nat_mask6]
theorem or_join (k a b : Nat) (h : a % 2 ^ k = 0) (hb : b < 2 ^ k) (ha : a < 256) (hk : 2 ^ k < 256) : bits .or .i32 (a : Int) (b : Int) = (a : Int) + (b : Int) := by
  rw [i32_or_nat a b (by omega) (by omega), nat_join k a b h hb]
  omega
theorem or128 (b : Nat) (hb : b < 64) : bits .or .i32 128 (b : Int) = 128 + (b : Int) := or_join 6 128 b rfl hb (by omega) (by omega)
theorem or192 (b : Nat) (hb : b < 32) : bits .or .i32 192 (b : Int) = 192 + (b : Int) := or_join 5 192 b rfl hb (by omega) (by omega)
theorem or224 (b : Nat) (hb : b < 16) : bits .or .i32 224 (b : Int) = 224 + (b : Int) := or_join 4 224 b rfl hb (by omega) (by omega)
theorem or240 (b : Nat) (hb : b < 8) : bits .or .i32 240 (b : Int) = 240 + (b : Int) := or_join 3 240 b rfl hb (by omega) (by omega)

theorem cast_byte {x : Int} (h0 : 0 ≤ x) (h1 : x < 256) : Value.int .u8 ((byteOf x).toNat : Int) = .int .u8 x := by
  have := byteOf_cast x
  rw [this]
  congr 1
  omega
theorem put_1 (m : Nat) (h : m < 128) : (bv (put (m : Int))).toArray = #[.int .u8 (m : Int)] := by
  unfold put
  rw [if_pos (by rw [isR_iff]; omega), if_pos (by omega)]
  simp only [bv, List.map_cons, List.map_nil]
  rw [cast_byte (by omega) (by omega)]
theorem put_2 (m : Nat) (h : m < 2048) (h0 : ¬ m < 128) : (bv (put (m : Int))).toArray = #[.int .u8 (192 + ((m / 64 % 32 : Nat) : Int)), .int .u8 (128 + ((m % 64 : Nat) : Int))] := by
  unfold put
  rw [if_pos (by rw [isR_iff]; omega), if_neg (by omega), if_pos (by omega)]
  simp only [bv, List.map_cons, List.map_nil]
  rw [cast_byte (by omega) (by omega), cast_byte (by omega) (by omega)]
  rw [show (192 + (m : Int) / 64) = 192 + ((m / 64 % 32 : Nat) : Int) by omega, show (128 + (m : Int) % 64) = 128 + ((m % 64 : Nat) : Int) by omega]
theorem put_3 (m : Nat) (hR : isR (m : Int)) (h : m < 65536) (h0 : ¬ m < 2048) : (bv (put (m : Int))).toArray = #[.int .u8 (224 + ((m / 4096 % 16 : Nat) : Int)), .int .u8 (128 + ((m / 64 % 64 : Nat) : Int)), .int .u8 (128 + ((m % 64 : Nat) : Int))] := by
  unfold put
  rw [if_pos hR, if_neg (by omega), if_neg (by omega), if_pos (by omega)]
  simp only [bv, List.map_cons, List.map_nil]
  rw [cast_byte (by omega) (by omega), cast_byte (by omega) (by omega), cast_byte (by omega) (by omega)]
  rw [show (224 + (m : Int) / 4096) = 224 + ((m / 4096 % 16 : Nat) : Int) by omega, show (128 + (m : Int) / 64 % 64) = 128 + ((m / 64 % 64 : Nat) : Int) by omega, show (128 + (m : Int) % 64) = 128 + ((m % 64 : Nat) : Int) by omega]
theorem put_4 (m : Nat) (hR : isR (m : Int)) (h0 : ¬ m < 65536) : (bv (put (m : Int))).toArray = #[.int .u8 (240 + ((m / 262144 % 8 : Nat) : Int)), .int .u8 (128 + ((m / 4096 % 64 : Nat) : Int)), .int .u8 (128 + ((m / 64 % 64 : Nat) : Int)), .int .u8 (128 + ((m % 64 : Nat) : Int))] := by
  have hm : m ≤ 1114111 := by rw [isR_iff] at hR; omega
  unfold put
  rw [if_pos hR, if_neg (by omega), if_neg (by omega), if_neg (by omega)]
  simp only [bv, List.map_cons, List.map_nil]
  rw [cast_byte (by omega) (by omega), cast_byte (by omega) (by omega), cast_byte (by omega) (by omega), cast_byte (by omega) (by omega)]
  rw [show (240 + (m : Int) / 262144) = 240 + ((m / 262144 % 8 : Nat) : Int) by omega, show (128 + (m : Int) / 4096 % 64) = 128 + ((m / 4096 % 64 : Nat) : Int) by omega, show (128 + (m : Int) / 64 % 64) = 128 + ((m / 64 % 64 : Nat) : Int) by omega, show (128 + (m : Int) % 64) = 128 + ((m % 64 : Nat) : Int) by omega]
/-- what the document's Put answers -/
def RowPost (w : World) (l : List UInt8) (e : Ending) (w' : World) : Prop := ∃ A n c, e = .returned (.slice A n c) ∧ Hold w' A n c l ∧ Below w.heap.size w w'
theorem RowPost.new {w : World} {l : List UInt8} {cs : Array Value} (h : (bv l).toArray = cs) {t : TypeId} {k n : Nat} (hk : k = w.heap.size) (hn : n = l.length) : RowPost w l (.returned (.slice (some ⟨k, 0, none⟩) n n)) (w.alloc (.cells cs t)) := by
  subst hn
  refine ⟨_, _, _, rfl, ?_, (Below.refl _ _).alloc (Nat.le_refl _) _⟩
  rw [← h]
  exact Hold.new w l t (0, 0) k hk
theorem conv_hold {w : World} {A : Option Addr} {n c : Nat} {l : List UInt8} (h : Hold w A n c l) : (convert 50 9 (.slice A n c)).run Tryd.prog w = .ok (.string ⟨l.toArray⟩) w := by
  obtain rfl := h.1
  cases A with
  | none =>
    have h0 := h.none_ rfl
    have hl : l = [] := List.eq_nil_of_length_eq_zero h0.1
    subst hl
    exact run_convert_bytes_nil w 50 5 Tryd.underlying50 Tryd.underlying5 _ _ 9 Tryd.underlying9
  | some a =>
    refine run_convert_bytes_back w 50 9 5 a c l Tryd.underlying50 Tryd.underlying5 Tryd.underlying9 (fun j hj => ?_)
    exact h.cells a rfl j _ ((bv_get l j _).2 ⟨hj, rfl⟩)
theorem conv_new (m : List UInt8) (cs : Array Value) (h : (bv m).toArray = cs) (W : World) (n : Nat) (hn : n = m.length) : (convert 50 9 (.slice (some ⟨W.heap.size, 0, none⟩) n n)).run Tryd.prog (W.alloc (.cells cs 5)) = .ok (.string ⟨m.toArray⟩) (W.alloc (.cells cs 5)) := by
  subst hn
  rw [← h]
  exact conv_hold (Hold.new W m 5 (0, 0) _ rfl)
/-- what Put answers -/
def PutPost (w : World) (r : Int) (e : Ending) (w' : World) : Prop := e = .returned (.string ⟨(put r).toArray⟩) ∧ Below w.heap.size w w'

def putR (w w' : World) : Prop := Below w.heap.size w w'
theorem putR_trans {w1 w2 w3 : World} (h : putR w1 w2) (k : putR w2 w3) : putR w1 w3 := Below.trans h (Below.mono k (Below.size h))
theorem Hold.newAs {l : List UInt8} {cs : Array Value} (h : (bv l).toArray = cs) (W : World) (t : TypeId) (n : Nat) (hn : n = l.length) : Hold (W.alloc (.cells cs t)) (some ⟨W.heap.size, 0, none⟩) n n l := by
  subst hn
  rw [← h]
  exact Hold.new W l t (0, 0) _ rfl
end Go.Proofs.YtnmailhlncchmaaDoor
