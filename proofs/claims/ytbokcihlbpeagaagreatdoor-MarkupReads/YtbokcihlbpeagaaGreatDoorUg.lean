/-
  What is proved: contract of utf's Put. Conditions: those in each statement.
-/
import Derived.Test.YtbokcihlbpeagaaGreatDoorUc
import Derived.Test.YtbokcihlbpeagaaGreatDoorOwn
import Derived.Test.YtbokcihlbpeagaaGreatDoorSsa
namespace Go.Proofs.YtbokcihlbpeagaaGreatDoor
open Go.RowKit

theorem and63i (a : Nat) (h : a < 2147483648) : bits .and .i32 (a : Int) 63 = ((a % 64 : Nat) : Int) := by
  rw [show (63 : Int) = ((63 : Nat) : Int) from rfl, i32_and_nat a 63 h (by omega), nat_mask6]
theorem or_join (k a b : Nat) (h : a % 2 ^ k = 0) (hb : b < 2 ^ k) (ha : a < 256) (hk : 2 ^ k < 256) : bits .or .i32 (a : Int) (b : Int) = (a : Int) + (b : Int) := by
  rw [i32_or_nat a b (by omega) (by omega), nat_join k a b h hb]
  omega
theorem or128 (b : Nat) (hb : b < 64) : bits .or .i32 128 (b : Int) = 128 + (b : Int) := or_join 6 128 b rfl hb (by omega) (by omega)
theorem or192 (b : Nat) (hb : b < 32) : bits .or .i32 192 (b : Int) = 192 + (b : Int) := or_join 5 192 b rfl hb (by omega) (by omega)
theorem or224 (b : Nat) (hb : b < 16) : bits .or .i32 224 (b : Int) = 224 + (b : Int) := or_join 4 224 b rfl hb (by omega) (by omega)
theorem or240 (b : Nat) (hb : b < 8) : bits .or .i32 240 (b : Int) = 240 + (b : Int) := or_join 3 240 b rfl hb (by omega) (by omega)

theorem tail0_any (r g : Nat) (w : World) (hr : r ≤ 1114111) (hc : w.cell? ⟨g, 0, none⟩ = some (.int .i32 (r : Int))) :
    Calls Tryz.prog 125 #[.int .i64 0, .pointer (some ⟨g, 0, none⟩)] w fun e w' => e = .returned (.int .u8 (128 + (r % 64 : Nat))) ∧ w = w' := by
  have h1 := and63i (r) (by omega)
  have h2 := or128 (r % 64) (by omega)
  have h3 : r % 64 < 64 := by omega
  generalize r % 64 = c at *
  go_enter Tryz.func125, Tryz.ntmps125
  go_wp2
  go_ret
  exact ⟨by go_num, rfl⟩
theorem tail6_any (r g : Nat) (w : World) (hr : r ≤ 1114111) (hc : w.cell? ⟨g, 0, none⟩ = some (.int .i32 (r : Int))) :
    Calls Tryz.prog 125 #[.int .i64 6, .pointer (some ⟨g, 0, none⟩)] w fun e w' => e = .returned (.int .u8 (128 + (r / 64 % 64 : Nat))) ∧ w = w' := by
  have h0 : (r : Int) / 64 = ((r / 64 : Nat) : Int) := by omega
  have h1 := and63i (r / 64) (by omega)
  have h2 := or128 (r / 64 % 64) (by omega)
  have h3 : r / 64 % 64 < 64 := by omega
  generalize r / 64 % 64 = c at *
  generalize r / 64 = q at *
  go_enter Tryz.func125, Tryz.ntmps125
  go_wp2
  go_ret
  exact ⟨by go_num, rfl⟩
theorem tail12_any (r g : Nat) (w : World) (hr : r ≤ 1114111) (hc : w.cell? ⟨g, 0, none⟩ = some (.int .i32 (r : Int))) :
    Calls Tryz.prog 125 #[.int .i64 12, .pointer (some ⟨g, 0, none⟩)] w fun e w' => e = .returned (.int .u8 (128 + (r / 4096 % 64 : Nat))) ∧ w = w' := by
  have h0 : (r : Int) / 4096 = ((r / 4096 : Nat) : Int) := by omega
  have h1 := and63i (r / 4096) (by omega)
  have h2 := or128 (r / 4096 % 64) (by omega)
  have h3 : r / 4096 % 64 < 64 := by omega
  generalize r / 4096 % 64 = c at *
  generalize r / 4096 = q at *
  go_enter Tryz.func125, Tryz.ntmps125
  go_wp2
  go_ret
  exact ⟨by go_num, rfl⟩
theorem cast_byte {x : Int} (h0 : 0 ≤ x) (h1 : x < 256) : Value.int .u8 ((byteOf x).toNat : Int) = .int .u8 x := by
  have := byteOf_cast x
  rw [this]
  congr 1
  omega
theorem put_1 (m : Nat) (h : m < 128) : (bv (put (m : Int))).toArray = #[.int .u8 (m : Int)] := by
  unfold put
  rw [if_pos (by rw [isR_iff]; omega), if_pos (by omega)]
  simp only [bv, List.map_cons, List.map_nil]
  rw [cast_byte (by omega) (by omega)]
theorem put_2 (m : Nat) (h : m < 2048) (h0 : ¬ m < 128) : (bv (put (m : Int))).toArray = #[.int .u8 (192 + ((m / 64 % 32 : Nat) : Int)), .int .u8 (128 + ((m % 64 : Nat) : Int))] := by
  unfold put
  rw [if_pos (by rw [isR_iff]; omega), if_neg (by omega), if_pos (by omega)]
  simp only [bv, List.map_cons, List.map_nil]
  rw [cast_byte (by omega) (by omega), cast_byte (by omega) (by omega)]
  rw [show (192 + (m : Int) / 64) = 192 + ((m / 64 % 32 : Nat) : Int) by omega, show (128 + (m : Int) % 64) = 128 + ((m % 64 : Nat) : Int) by omega]
theorem put_3 (m : Nat) (hR : isR (m : Int)) (h : m < 65536) (h0 : ¬ m < 2048) : (bv (put (m : Int))).toArray = #[.int .u8 (224 + ((m / 4096 % 16 : Nat) : Int)), .int .u8 (128 + ((m / 64 % 64 : Nat) : Int)), .int .u8 (128 + ((m % 64 : Nat) : Int))] := by
  unfold put
  rw [if_pos hR, if_neg (by omega), if_neg (by omega), if_pos (by omega)]
  simp only [bv, List.map_cons, List.map_nil]
  rw [cast_byte (by omega) (by omega), cast_byte (by omega) (by omega), cast_byte (by omega) (by omega)]
  rw [show (224 + (m : Int) / 4096) = 224 + ((m / 4096 % 16 : Nat) : Int) by omega, show (128 + (m : Int) / 64 % 64) = 128 + ((m / 64 % 64 : Nat) : Int) by omega, show (128 + (m : Int) % 64) = 128 + ((m % 64 : Nat) : Int) by omega]
theorem put_4 (m : Nat) (hR : isR (m : Int)) (h0 : ¬ m < 65536) : (bv (put (m : Int))).toArray = #[.int .u8 (240 + ((m / 262144 % 8 : Nat) : Int)), .int .u8 (128 + ((m / 4096 % 64 : Nat) : Int)), .int .u8 (128 + ((m / 64 % 64 : Nat) : Int)), .int .u8 (128 + ((m % 64 : Nat) : Int))] := by
  have hm : m ≤ 1114111 := by rw [isR_iff] at hR; omega
  unfold put
  rw [if_pos hR, if_neg (by omega), if_neg (by omega), if_neg (by omega)]
  simp only [bv, List.map_cons, List.map_nil]
  rw [cast_byte (by omega) (by omega), cast_byte (by omega) (by omega), cast_byte (by omega) (by omega), cast_byte (by omega) (by omega)]
  rw [show (240 + (m : Int) / 262144) = 240 + ((m / 262144 % 8 : Nat) : Int) by omega, show (128 + (m : Int) / 4096 % 64) = 128 + ((m / 4096 % 64 : Nat) : Int) by omega, show (128 + (m : Int) / 64 % 64) = 128 + ((m / 64 % 64 : Nat) : Int) by omega, show (128 + (m : Int) % 64) = 128 + ((m % 64 : Nat) : Int) by omega]
/-- what the document's Put answers -/
def RowPost (w : World) (l : List UInt8) (e : Ending) (w' : World) : Prop := ∃ A n c, e = .returned (.slice A n c) ∧ Hold w' A n c l ∧ Below w.heap.size w w'
theorem RowPost.new {w : World} {l : List UInt8} {cs : Array Value} (h : (bv l).toArray = cs) {t : TypeId} {k n : Nat} (hk : k = w.heap.size) (hn : n = l.length) : RowPost w l (.returned (.slice (some ⟨k, 0, none⟩) n n)) (w.alloc (.cells cs t)) := by
  subst hn
  refine ⟨_, _, _, rfl, ?_, (Below.refl _ _).alloc (Nat.le_refl _) _⟩
  rw [← h]
  exact Hold.new w l t (0, 0) k hk
theorem conv_hold {w : World} {A : Option Addr} {n c : Nat} {l : List UInt8} (h : Hold w A n c l) : (convert 42 9 (.slice A n c)).run Tryz.prog w = .ok (.string ⟨l.toArray⟩) w := by
  obtain rfl := h.1
  cases A with
  | none =>
    have h0 := h.none_ rfl
    have hl : l = [] := List.eq_nil_of_length_eq_zero h0.1
    subst hl
    exact run_convert_bytes_nil w 42 5 Tryz.underlying42 Tryz.underlying5 _ _ 9 Tryz.underlying9
  | some a =>
    refine run_convert_bytes_back w 42 9 5 a c l Tryz.underlying42 Tryz.underlying5 Tryz.underlying9 (fun j hj => ?_)
    exact h.cells a rfl j _ ((bv_get l j _).2 ⟨hj, rfl⟩)
theorem conv_new (m : List UInt8) (cs : Array Value) (h : (bv m).toArray = cs) (W : World) (n : Nat) (hn : n = m.length) : (convert 42 9 (.slice (some ⟨W.heap.size, 0, none⟩) n n)).run Tryz.prog (W.alloc (.cells cs 5)) = .ok (.string ⟨m.toArray⟩) (W.alloc (.cells cs 5)) := by
  subst hn
  rw [← h]
  exact conv_hold (Hold.new W m 5 (0, 0) _ rfl)
/-- what Put answers -/
def PutPost (w : World) (r : Int) (e : Ending) (w' : World) : Prop := e = .returned (.string ⟨(put r).toArray⟩) ∧ Below w.heap.size w w'

def putR (w w' : World) : Prop := Below w.heap.size w w'
theorem putR_trans {w1 w2 w3 : World} (h : putR w1 w2) (k : putR w2 w3) : putR w1 w3 := Below.trans h (Below.mono k (Below.size h))
theorem Hold.newAs {l : List UInt8} {cs : Array Value} (h : (bv l).toArray = cs) (W : World) (t : TypeId) (n : Nat) (hn : n = l.length) : Hold (W.alloc (.cells cs t)) (some ⟨W.heap.size, 0, none⟩) n n l := by
  subst hn
  rw [← h]
  exact Hold.new W l t (0, 0) _ rfl
/-- what the operations of the line yield where there are 2 bytes -/
def pF2 (z : Int) (g q c0 : Nat) (l : List UInt8) : Nat → Value → World → Prop
  | 0, v, _ => v = .int .i32 z
  | 1, v, _ => v = .int .i32 (q : Int)
  | 2, v, _ => v = .int .i32 (192 + (q : Int))
  | 3, v, _ => v = .int .u8 (192 + (q : Int))
  | 4, v, _ => v = Value.func (Fn.func 125) #[] #[.pointer (some ⟨g, 0, none⟩)]
  | 5, v, _ => v = .int .u8 (128 + (c0 : Int))
  | 6, v, w => ∃ k, v = .slice (some ⟨k, 0, none⟩) 2 2 ∧ Hold w (some ⟨k, 0, none⟩) 2 2 l
  | _, v, _ => v = .string ⟨l.toArray⟩
theorem pF2_mono {z : Int} {g q c0 : Nat} {l : List UInt8} : ∀ i v w w', pF2 z g q c0 l i v w → putR w w' → pF2 z g q c0 l i v w' := by
  intro i v w w' h hR
  unfold pF2 at *
  split at h
  all_goals first
    | exact h
    | (obtain ⟨k, e, hh⟩ := h; exact ⟨k, e, hh.below hR⟩)
set_option maxRecDepth 100000 in
set_option maxHeartbeats 2000000 in
theorem put2_walk (z : Int) (q : Nat) (_hq : q < 64) (c0 : Nat) (_hc0 : c0 < 64) (l : List UInt8) (w : World) (_hz0 : 0 ≤ z) (_hz1 : z ≤ 1114111) (hqz : z / 64 = (q : Int)) (HL : Hid (2 = l.length))
    (HS : Hid (sz z = 2)) (HP : Hid ((bv l).toArray = #[.int .u8 (192 + (q : Int)), .int .u8 (128 + (c0 : Int))])) (HO : bits .or .i32 192 (q : Int) = 192 + (q : Int))
    (HTA : ∀ g, (∀ W : World, W.cell? ⟨g, 0, none⟩ = some (.int .i32 z) → Hid (Calls Tryz.prog 125 #[.int .i64 0, .pointer (some ⟨g, 0, none⟩)] W fun e w' => e = .returned (.int .u8 (128 + (c0 : Int))) ∧ W = w'))) :
    Calls Tryz.prog 119 #[.int .i32 z] w fun e w' => e = .returned (.string ⟨l.toArray⟩) ∧ Below w.heap.size w w' := by
  have HC0 := Lib.hid (box_cell (Below.refl (w.alloc (.cells #[.int .i32 z] 21)).heap.size (w.alloc (.cells #[.int .i32 z] 21))) 0 (u := .int .i32 z) rfl)
  have HB0 := Lib.hid ((Below.refl w.heap.size w).alloc (Nat.le_refl _) (.cells #[.int .i32 z] 21))
  have HT0 := HTA w.heap.size
  clear HTA
  have HX := Lib.hid (And.intro hqz HO)
  clear hqz HO
  go_enter Tryz.func119, Tryz.ntmps119
  go_wp2_with (go_at_call 54; refine (size_any _ _).mono ?_; rintro e w' ⟨rfl, rfl⟩; rw [HS.out]; generalize w.alloc (.cells #[.int .i32 z] 21) = V at *)
  generalize hg : w.heap.size = g at HT0 HC0 ⊢
  obtain ⟨hqz, HO⟩ := HX.out
  replace HC0 : Hid (V.drew.cell? ⟨g, 0, none⟩ = some (.int .i32 z)) := HC0
  refine wp_region_steps (pF2 z g q c0 l) putR (by kernel_rfl) (by kernel_rfl) (fun w => Below.refl _ _) (fun _ _ _ h k => putR_trans h k) pF2_mono ?_ ?_
  · refine ⟨?_, ?_, ?_, ?_, ?_, ?_, ?_, ?_, ?_, trivial⟩
    · intro a W hR hoff hd
      left
      refine ⟨rfl, ?_⟩
      have e0 : a.tmps.getD 1 undef = .pointer (some ⟨g, 0, none⟩) := hoff.slot 1 (no_dst (by kernel_rfl))
      have hc := cell_later hR HC0.out
      go_simp
      exact ⟨_, rfl, rfl, Below.refl _ _⟩
    · intro a W hR hoff hd
      left
      refine ⟨rfl, ?_⟩
      have e0 : a.tmps.getD 15 undef = .int .i32 z := hd 0 _ rfl rfl
      go_simp
      exact ⟨_, rfl, rfl, Below.refl _ _⟩
    · intro a W hR hoff hd
      left
      refine ⟨rfl, ?_⟩
      have e0 : a.tmps.getD 16 undef = .int .i32 (q : Int) := hd 1 _ rfl rfl
      go_simp
      exact ⟨_, rfl, rfl, Below.refl _ _⟩
    · intro a W hR hoff hd
      left
      refine ⟨rfl, ?_⟩
      have e0 : a.tmps.getD 17 undef = .int .i32 (192 + (q : Int)) := hd 2 _ rfl rfl
      have hw : IntKind.u8.wrap (192 + (q : Int)) = 192 + (q : Int) := by rw [IntKind.wrap_u8']; omega
      go_simp
      exact ⟨_, rfl, rfl, Below.refl _ _⟩
    · intro a W hR hoff hd
      left
      refine ⟨rfl, ?_⟩
      have e0 : a.tmps.getD 3 undef = Value.func (Fn.func 125) #[] #[.pointer (some ⟨g, 0, none⟩)] := hoff.slot 3 (no_dst (by kernel_rfl))
      go_simp
      exact ⟨_, rfl, rfl, Below.refl _ _⟩
    · intro a W hR hoff hd
      left
      refine ⟨rfl, ?_⟩
      have e0 : a.tmps.getD 19 undef = Value.func (Fn.func 125) #[] #[.pointer (some ⟨g, 0, none⟩)] := hd 4 _ rfl rfl
      have hc := cell_later hR HC0.out
      go_simp
      refine (HT0 W hc).out.mono ?_
      rintro e W2 ⟨rfl, rfl⟩
      exact ⟨_, rfl, rfl, Below.refl _ _⟩
    · intro a W hR hoff hd
      left
      refine ⟨rfl, ?_⟩
      have e0 : a.tmps.getD 18 undef = .int .u8 (192 + (q : Int)) := hd 3 _ rfl rfl
      have e1 : a.tmps.getD 20 undef = .int .u8 (128 + (c0 : Int)) := hd 5 _ rfl rfl
      have f0 : a.tmps[18]?.getD undef = .int .u8 (192 + (q : Int)) := by simpa using e0
      have f1 : a.tmps[20]?.getD undef = .int .u8 (128 + (c0 : Int)) := by simpa using e1
      have HH := Lib.hid (Hold.newAs HP.out W 5 2 HL.out)
      go_simp
      exact ⟨_, rfl, ⟨_, rfl, HH.out⟩, (Below.refl _ _).alloc (Nat.le_refl _) _⟩
    · intro a W hR hoff hd
      left
      refine ⟨rfl, ?_⟩
      obtain ⟨k, e0, hh⟩ : ∃ k, a.tmps.getD 21 undef = .slice (some ⟨k, 0, none⟩) 2 2 ∧ Hold W (some ⟨k, 0, none⟩) 2 2 l := hd 6 _ rfl rfl
      have cv := conv_hold hh
      clear hh
      go_simp
      exact ⟨_, rfl, rfl, Below.refl _ _⟩
    · intro a W hR hoff hd
      left
      refine ⟨rfl, ?_⟩
      have e0 : a.tmps.getD 22 undef = .string ⟨l.toArray⟩ := hd 7 _ rfl rfl
      go_simp
      exact ⟨_, rfl, rfl, Below.refl _ _⟩
  · intro a W hR hoff hd
    have e2 : a.tmps.getD 2 undef = .string ⟨l.toArray⟩ := hd 8 _ rfl
    rename_i hK
    refine hK _ _ ?_
    go_wp2
    refine bodyPost_ret (results_tmp rfl _ _ _) hoff.defers ⟨by rw [e2], ?_⟩
    exact (HB0.out.drew).trans (Below.mono hR HB0.out.size)
/-- what the operations of the line yield where there are 3 bytes -/
def pF3 (z : Int) (g q c0 c1 : Nat) (l : List UInt8) : Nat → Value → World → Prop
  | 0, v, _ => v = .int .i32 z
  | 1, v, _ => v = .int .i32 (q : Int)
  | 2, v, _ => v = .int .i32 (224 + (q : Int))
  | 3, v, _ => v = .int .u8 (224 + (q : Int))
  | 4, v, _ => v = Value.func (Fn.func 125) #[] #[.pointer (some ⟨g, 0, none⟩)]
  | 5, v, _ => v = .int .u8 (128 + (c0 : Int))
  | 6, v, _ => v = Value.func (Fn.func 125) #[] #[.pointer (some ⟨g, 0, none⟩)]
  | 7, v, _ => v = .int .u8 (128 + (c1 : Int))
  | 8, v, w => ∃ k, v = .slice (some ⟨k, 0, none⟩) 3 3 ∧ Hold w (some ⟨k, 0, none⟩) 3 3 l
  | _, v, _ => v = .string ⟨l.toArray⟩
theorem pF3_mono {z : Int} {g q c0 c1 : Nat} {l : List UInt8} : ∀ i v w w', pF3 z g q c0 c1 l i v w → putR w w' → pF3 z g q c0 c1 l i v w' := by
  intro i v w w' h hR
  unfold pF3 at *
  split at h
  all_goals first
    | exact h
    | (obtain ⟨k, e, hh⟩ := h; exact ⟨k, e, hh.below hR⟩)
set_option maxRecDepth 100000 in
set_option maxHeartbeats 2000000 in
theorem put3_walk (z : Int) (q : Nat) (_hq : q < 32) (c0 : Nat) (_hc0 : c0 < 64) (c1 : Nat) (_hc1 : c1 < 64) (l : List UInt8) (w : World) (_hz0 : 0 ≤ z) (_hz1 : z ≤ 1114111) (hqz : z / 4096 = (q : Int)) (HL : Hid (3 = l.length))
    (HS : Hid (sz z = 3)) (HP : Hid ((bv l).toArray = #[.int .u8 (224 + (q : Int)), .int .u8 (128 + (c0 : Int)), .int .u8 (128 + (c1 : Int))])) (HO : bits .or .i32 224 (q : Int) = 224 + (q : Int))
    (HTA : ∀ g, (∀ W : World, W.cell? ⟨g, 0, none⟩ = some (.int .i32 z) → Hid (Calls Tryz.prog 125 #[.int .i64 6, .pointer (some ⟨g, 0, none⟩)] W fun e w' => e = .returned (.int .u8 (128 + (c0 : Int))) ∧ W = w')) ∧ (∀ W : World, W.cell? ⟨g, 0, none⟩ = some (.int .i32 z) → Hid (Calls Tryz.prog 125 #[.int .i64 0, .pointer (some ⟨g, 0, none⟩)] W fun e w' => e = .returned (.int .u8 (128 + (c1 : Int))) ∧ W = w'))) :
    Calls Tryz.prog 119 #[.int .i32 z] w fun e w' => e = .returned (.string ⟨l.toArray⟩) ∧ Below w.heap.size w w' := by
  have HC0 := Lib.hid (box_cell (Below.refl (w.alloc (.cells #[.int .i32 z] 21)).heap.size (w.alloc (.cells #[.int .i32 z] 21))) 0 (u := .int .i32 z) rfl)
  have HB0 := Lib.hid ((Below.refl w.heap.size w).alloc (Nat.le_refl _) (.cells #[.int .i32 z] 21))
  obtain ⟨HT0, HT1⟩ := HTA w.heap.size
  clear HTA
  have HX := Lib.hid (And.intro hqz HO)
  clear hqz HO
  go_enter Tryz.func119, Tryz.ntmps119
  go_wp2_with (go_at_call 54; refine (size_any _ _).mono ?_; rintro e w' ⟨rfl, rfl⟩; rw [HS.out]; generalize w.alloc (.cells #[.int .i32 z] 21) = V at *)
  generalize hg : w.heap.size = g at HT0 HT1 HC0 ⊢
  obtain ⟨hqz, HO⟩ := HX.out
  replace HC0 : Hid (V.drew.cell? ⟨g, 0, none⟩ = some (.int .i32 z)) := HC0
  refine wp_region_steps (pF3 z g q c0 c1 l) putR (by kernel_rfl) (by kernel_rfl) (fun w => Below.refl _ _) (fun _ _ _ h k => putR_trans h k) pF3_mono ?_ ?_
  · refine ⟨?_, ?_, ?_, ?_, ?_, ?_, ?_, ?_, ?_, ?_, ?_, trivial⟩
    · intro a W hR hoff hd
      left
      refine ⟨rfl, ?_⟩
      have e0 : a.tmps.getD 1 undef = .pointer (some ⟨g, 0, none⟩) := hoff.slot 1 (no_dst (by kernel_rfl))
      have hc := cell_later hR HC0.out
      go_simp
      exact ⟨_, rfl, rfl, Below.refl _ _⟩
    · intro a W hR hoff hd
      left
      refine ⟨rfl, ?_⟩
      have e0 : a.tmps.getD 25 undef = .int .i32 z := hd 0 _ rfl rfl
      go_simp
      exact ⟨_, rfl, rfl, Below.refl _ _⟩
    · intro a W hR hoff hd
      left
      refine ⟨rfl, ?_⟩
      have e0 : a.tmps.getD 26 undef = .int .i32 (q : Int) := hd 1 _ rfl rfl
      go_simp
      exact ⟨_, rfl, rfl, Below.refl _ _⟩
    · intro a W hR hoff hd
      left
      refine ⟨rfl, ?_⟩
      have e0 : a.tmps.getD 27 undef = .int .i32 (224 + (q : Int)) := hd 2 _ rfl rfl
      have hw : IntKind.u8.wrap (224 + (q : Int)) = 224 + (q : Int) := by rw [IntKind.wrap_u8']; omega
      go_simp
      exact ⟨_, rfl, rfl, Below.refl _ _⟩
    · intro a W hR hoff hd
      left
      refine ⟨rfl, ?_⟩
      have e0 : a.tmps.getD 3 undef = Value.func (Fn.func 125) #[] #[.pointer (some ⟨g, 0, none⟩)] := hoff.slot 3 (no_dst (by kernel_rfl))
      go_simp
      exact ⟨_, rfl, rfl, Below.refl _ _⟩
    · intro a W hR hoff hd
      left
      refine ⟨rfl, ?_⟩
      have e0 : a.tmps.getD 29 undef = Value.func (Fn.func 125) #[] #[.pointer (some ⟨g, 0, none⟩)] := hd 4 _ rfl rfl
      have hc := cell_later hR HC0.out
      go_simp
      refine (HT0 W hc).out.mono ?_
      rintro e W2 ⟨rfl, rfl⟩
      exact ⟨_, rfl, rfl, Below.refl _ _⟩
    · intro a W hR hoff hd
      left
      refine ⟨rfl, ?_⟩
      have e0 : a.tmps.getD 3 undef = Value.func (Fn.func 125) #[] #[.pointer (some ⟨g, 0, none⟩)] := hoff.slot 3 (no_dst (by kernel_rfl))
      go_simp
      exact ⟨_, rfl, rfl, Below.refl _ _⟩
    · intro a W hR hoff hd
      left
      refine ⟨rfl, ?_⟩
      have e0 : a.tmps.getD 31 undef = Value.func (Fn.func 125) #[] #[.pointer (some ⟨g, 0, none⟩)] := hd 6 _ rfl rfl
      have hc := cell_later hR HC0.out
      go_simp
      refine (HT1 W hc).out.mono ?_
      rintro e W2 ⟨rfl, rfl⟩
      exact ⟨_, rfl, rfl, Below.refl _ _⟩
    · intro a W hR hoff hd
      left
      refine ⟨rfl, ?_⟩
      have e0 : a.tmps.getD 28 undef = .int .u8 (224 + (q : Int)) := hd 3 _ rfl rfl
      have e1 : a.tmps.getD 30 undef = .int .u8 (128 + (c0 : Int)) := hd 5 _ rfl rfl
      have e2 : a.tmps.getD 32 undef = .int .u8 (128 + (c1 : Int)) := hd 7 _ rfl rfl
      have f0 : a.tmps[28]?.getD undef = .int .u8 (224 + (q : Int)) := by simpa using e0
      have f1 : a.tmps[30]?.getD undef = .int .u8 (128 + (c0 : Int)) := by simpa using e1
      have f2 : a.tmps[32]?.getD undef = .int .u8 (128 + (c1 : Int)) := by simpa using e2
      have HH := Lib.hid (Hold.newAs HP.out W 5 3 HL.out)
      go_simp
      exact ⟨_, rfl, ⟨_, rfl, HH.out⟩, (Below.refl _ _).alloc (Nat.le_refl _) _⟩
    · intro a W hR hoff hd
      left
      refine ⟨rfl, ?_⟩
      obtain ⟨k, e0, hh⟩ : ∃ k, a.tmps.getD 33 undef = .slice (some ⟨k, 0, none⟩) 3 3 ∧ Hold W (some ⟨k, 0, none⟩) 3 3 l := hd 8 _ rfl rfl
      have cv := conv_hold hh
      clear hh
      go_simp
      exact ⟨_, rfl, rfl, Below.refl _ _⟩
    · intro a W hR hoff hd
      left
      refine ⟨rfl, ?_⟩
      have e0 : a.tmps.getD 34 undef = .string ⟨l.toArray⟩ := hd 9 _ rfl rfl
      go_simp
      exact ⟨_, rfl, rfl, Below.refl _ _⟩
  · intro a W hR hoff hd
    have e2 : a.tmps.getD 2 undef = .string ⟨l.toArray⟩ := hd 10 _ rfl
    rename_i hK
    refine hK _ _ ?_
    go_wp2
    refine bodyPost_ret (results_tmp rfl _ _ _) hoff.defers ⟨by rw [e2], ?_⟩
    exact (HB0.out.drew).trans (Below.mono hR HB0.out.size)
/-- what the operations of the line yield where there are 4 bytes -/
def pF4 (z : Int) (g q c0 c1 c2 : Nat) (l : List UInt8) : Nat → Value → World → Prop
  | 0, v, _ => v = .int .i32 z
  | 1, v, _ => v = .int .i32 (q : Int)
  | 2, v, _ => v = .int .i32 (240 + (q : Int))
  | 3, v, _ => v = .int .u8 (240 + (q : Int))
  | 4, v, _ => v = Value.func (Fn.func 125) #[] #[.pointer (some ⟨g, 0, none⟩)]
  | 5, v, _ => v = .int .u8 (128 + (c0 : Int))
  | 6, v, _ => v = Value.func (Fn.func 125) #[] #[.pointer (some ⟨g, 0, none⟩)]
  | 7, v, _ => v = .int .u8 (128 + (c1 : Int))
  | 8, v, _ => v = Value.func (Fn.func 125) #[] #[.pointer (some ⟨g, 0, none⟩)]
  | 9, v, _ => v = .int .u8 (128 + (c2 : Int))
  | 10, v, w => ∃ k, v = .slice (some ⟨k, 0, none⟩) 4 4 ∧ Hold w (some ⟨k, 0, none⟩) 4 4 l
  | _, v, _ => v = .string ⟨l.toArray⟩
theorem pF4_mono {z : Int} {g q c0 c1 c2 : Nat} {l : List UInt8} : ∀ i v w w', pF4 z g q c0 c1 c2 l i v w → putR w w' → pF4 z g q c0 c1 c2 l i v w' := by
  intro i v w w' h hR
  unfold pF4 at *
  split at h
  all_goals first
    | exact h
    | (obtain ⟨k, e, hh⟩ := h; exact ⟨k, e, hh.below hR⟩)
set_option maxRecDepth 100000 in
set_option maxHeartbeats 2000000 in
theorem put4_walk (z : Int) (q : Nat) (_hq : q < 16) (c0 : Nat) (_hc0 : c0 < 64) (c1 : Nat) (_hc1 : c1 < 64) (c2 : Nat) (_hc2 : c2 < 64) (l : List UInt8) (w : World) (_hz0 : 0 ≤ z) (_hz1 : z ≤ 1114111) (hqz : z / 262144 = (q : Int)) (HL : Hid (4 = l.length))
    (HS : Hid (sz z = 4)) (HP : Hid ((bv l).toArray = #[.int .u8 (240 + (q : Int)), .int .u8 (128 + (c0 : Int)), .int .u8 (128 + (c1 : Int)), .int .u8 (128 + (c2 : Int))])) (HO : bits .or .i32 240 (q : Int) = 240 + (q : Int))
    (HTA : ∀ g, (∀ W : World, W.cell? ⟨g, 0, none⟩ = some (.int .i32 z) → Hid (Calls Tryz.prog 125 #[.int .i64 12, .pointer (some ⟨g, 0, none⟩)] W fun e w' => e = .returned (.int .u8 (128 + (c0 : Int))) ∧ W = w')) ∧ (∀ W : World, W.cell? ⟨g, 0, none⟩ = some (.int .i32 z) → Hid (Calls Tryz.prog 125 #[.int .i64 6, .pointer (some ⟨g, 0, none⟩)] W fun e w' => e = .returned (.int .u8 (128 + (c1 : Int))) ∧ W = w')) ∧ (∀ W : World, W.cell? ⟨g, 0, none⟩ = some (.int .i32 z) → Hid (Calls Tryz.prog 125 #[.int .i64 0, .pointer (some ⟨g, 0, none⟩)] W fun e w' => e = .returned (.int .u8 (128 + (c2 : Int))) ∧ W = w'))) :
    Calls Tryz.prog 119 #[.int .i32 z] w fun e w' => e = .returned (.string ⟨l.toArray⟩) ∧ Below w.heap.size w w' := by
  have HC0 := Lib.hid (box_cell (Below.refl (w.alloc (.cells #[.int .i32 z] 21)).heap.size (w.alloc (.cells #[.int .i32 z] 21))) 0 (u := .int .i32 z) rfl)
  have HB0 := Lib.hid ((Below.refl w.heap.size w).alloc (Nat.le_refl _) (.cells #[.int .i32 z] 21))
  obtain ⟨HT0, HT1, HT2⟩ := HTA w.heap.size
  clear HTA
  have HX := Lib.hid (And.intro hqz HO)
  clear hqz HO
  go_enter Tryz.func119, Tryz.ntmps119
  go_wp2_with (go_at_call 54; refine (size_any _ _).mono ?_; rintro e w' ⟨rfl, rfl⟩; rw [HS.out]; generalize w.alloc (.cells #[.int .i32 z] 21) = V at *)
  generalize hg : w.heap.size = g at HT0 HT1 HT2 HC0 ⊢
  obtain ⟨hqz, HO⟩ := HX.out
  replace HC0 : Hid (V.drew.cell? ⟨g, 0, none⟩ = some (.int .i32 z)) := HC0
  refine wp_region_steps (pF4 z g q c0 c1 c2 l) putR (by kernel_rfl) (by kernel_rfl) (fun w => Below.refl _ _) (fun _ _ _ h k => putR_trans h k) pF4_mono ?_ ?_
  · refine ⟨?_, ?_, ?_, ?_, ?_, ?_, ?_, ?_, ?_, ?_, ?_, ?_, ?_, trivial⟩
    · intro a W hR hoff hd
      left
      refine ⟨rfl, ?_⟩
      have e0 : a.tmps.getD 1 undef = .pointer (some ⟨g, 0, none⟩) := hoff.slot 1 (no_dst (by kernel_rfl))
      have hc := cell_later hR HC0.out
      go_simp
      exact ⟨_, rfl, rfl, Below.refl _ _⟩
    · intro a W hR hoff hd
      left
      refine ⟨rfl, ?_⟩
      have e0 : a.tmps.getD 37 undef = .int .i32 z := hd 0 _ rfl rfl
      go_simp
      exact ⟨_, rfl, rfl, Below.refl _ _⟩
    · intro a W hR hoff hd
      left
      refine ⟨rfl, ?_⟩
      have e0 : a.tmps.getD 38 undef = .int .i32 (q : Int) := hd 1 _ rfl rfl
      go_simp
      exact ⟨_, rfl, rfl, Below.refl _ _⟩
    · intro a W hR hoff hd
      left
      refine ⟨rfl, ?_⟩
      have e0 : a.tmps.getD 39 undef = .int .i32 (240 + (q : Int)) := hd 2 _ rfl rfl
      have hw : IntKind.u8.wrap (240 + (q : Int)) = 240 + (q : Int) := by rw [IntKind.wrap_u8']; omega
      go_simp
      exact ⟨_, rfl, rfl, Below.refl _ _⟩
    · intro a W hR hoff hd
      left
      refine ⟨rfl, ?_⟩
      have e0 : a.tmps.getD 3 undef = Value.func (Fn.func 125) #[] #[.pointer (some ⟨g, 0, none⟩)] := hoff.slot 3 (no_dst (by kernel_rfl))
      go_simp
      exact ⟨_, rfl, rfl, Below.refl _ _⟩
    · intro a W hR hoff hd
      left
      refine ⟨rfl, ?_⟩
      have e0 : a.tmps.getD 41 undef = Value.func (Fn.func 125) #[] #[.pointer (some ⟨g, 0, none⟩)] := hd 4 _ rfl rfl
      have hc := cell_later hR HC0.out
      go_simp
      refine (HT0 W hc).out.mono ?_
      rintro e W2 ⟨rfl, rfl⟩
      exact ⟨_, rfl, rfl, Below.refl _ _⟩
    · intro a W hR hoff hd
      left
      refine ⟨rfl, ?_⟩
      have e0 : a.tmps.getD 3 undef = Value.func (Fn.func 125) #[] #[.pointer (some ⟨g, 0, none⟩)] := hoff.slot 3 (no_dst (by kernel_rfl))
      go_simp
      exact ⟨_, rfl, rfl, Below.refl _ _⟩
    · intro a W hR hoff hd
      left
      refine ⟨rfl, ?_⟩
      have e0 : a.tmps.getD 43 undef = Value.func (Fn.func 125) #[] #[.pointer (some ⟨g, 0, none⟩)] := hd 6 _ rfl rfl
      have hc := cell_later hR HC0.out
      go_simp
      refine (HT1 W hc).out.mono ?_
      rintro e W2 ⟨rfl, rfl⟩
      exact ⟨_, rfl, rfl, Below.refl _ _⟩
    · intro a W hR hoff hd
      left
      refine ⟨rfl, ?_⟩
      have e0 : a.tmps.getD 3 undef = Value.func (Fn.func 125) #[] #[.pointer (some ⟨g, 0, none⟩)] := hoff.slot 3 (no_dst (by kernel_rfl))
      go_simp
      exact ⟨_, rfl, rfl, Below.refl _ _⟩
    · intro a W hR hoff hd
      left
      refine ⟨rfl, ?_⟩
      have e0 : a.tmps.getD 45 undef = Value.func (Fn.func 125) #[] #[.pointer (some ⟨g, 0, none⟩)] := hd 8 _ rfl rfl
      have hc := cell_later hR HC0.out
      go_simp
      refine (HT2 W hc).out.mono ?_
      rintro e W2 ⟨rfl, rfl⟩
      exact ⟨_, rfl, rfl, Below.refl _ _⟩
    · intro a W hR hoff hd
      left
      refine ⟨rfl, ?_⟩
      have e0 : a.tmps.getD 40 undef = .int .u8 (240 + (q : Int)) := hd 3 _ rfl rfl
      have e1 : a.tmps.getD 42 undef = .int .u8 (128 + (c0 : Int)) := hd 5 _ rfl rfl
      have e2 : a.tmps.getD 44 undef = .int .u8 (128 + (c1 : Int)) := hd 7 _ rfl rfl
      have e3 : a.tmps.getD 46 undef = .int .u8 (128 + (c2 : Int)) := hd 9 _ rfl rfl
      have f0 : a.tmps[40]?.getD undef = .int .u8 (240 + (q : Int)) := by simpa using e0
      have f1 : a.tmps[42]?.getD undef = .int .u8 (128 + (c0 : Int)) := by simpa using e1
      have f2 : a.tmps[44]?.getD undef = .int .u8 (128 + (c1 : Int)) := by simpa using e2
      have f3 : a.tmps[46]?.getD undef = .int .u8 (128 + (c2 : Int)) := by simpa using e3
      have HH := Lib.hid (Hold.newAs HP.out W 5 4 HL.out)
      go_simp
      exact ⟨_, rfl, ⟨_, rfl, HH.out⟩, (Below.refl _ _).alloc (Nat.le_refl _) _⟩
    · intro a W hR hoff hd
      left
      refine ⟨rfl, ?_⟩
      obtain ⟨k, e0, hh⟩ : ∃ k, a.tmps.getD 47 undef = .slice (some ⟨k, 0, none⟩) 4 4 ∧ Hold W (some ⟨k, 0, none⟩) 4 4 l := hd 10 _ rfl rfl
      have cv := conv_hold hh
      clear hh
      go_simp
      exact ⟨_, rfl, rfl, Below.refl _ _⟩
    · intro a W hR hoff hd
      left
      refine ⟨rfl, ?_⟩
      have e0 : a.tmps.getD 48 undef = .string ⟨l.toArray⟩ := hd 11 _ rfl rfl
      go_simp
      exact ⟨_, rfl, rfl, Below.refl _ _⟩
  · intro a W hR hoff hd
    have e2 : a.tmps.getD 2 undef = .string ⟨l.toArray⟩ := hd 12 _ rfl
    rename_i hK
    refine hK _ _ ?_
    go_wp2
    refine bodyPost_ret (results_tmp rfl _ _ _) hoff.defers ⟨by rw [e2], ?_⟩
    exact (HB0.out.drew).trans (Below.mono hR HB0.out.size)
set_option maxRecDepth 100000 in
set_option maxHeartbeats 2000000 in
theorem put0_walk (z : Int) (w : World) (HS : Hid (sz z = 0)) : Calls Tryz.prog 119 #[.int .i32 z] w fun e w' => e = .returned (.string ⟨[].toArray⟩) ∧ Below w.heap.size w w' := by
  have HB0 := Lib.hid ((Below.refl w.heap.size w).alloc (Nat.le_refl _) (.cells #[.int .i32 z] 21))
  go_enter Tryz.func119, Tryz.ntmps119
  go_wp2_with (go_at_call 54; refine (size_any _ _).mono ?_; rintro e w' ⟨rfl, rfl⟩; rw [HS.out]; generalize w.alloc (.cells #[.int .i32 z] 21) = V at *)
  go_ret
  exact ⟨rfl, HB0.out⟩
set_option maxRecDepth 100000 in
set_option maxHeartbeats 2000000 in
theorem put1_walk (z : Int) (l : List UInt8) (w : World) (hz0 : 0 ≤ z) (hz1 : z < 128) (HL : Hid (1 = l.length)) (HS : Hid (sz z = 1)) (HP : Hid ((bv l).toArray = #[.int .u8 z])) : Calls Tryz.prog 119 #[.int .i32 z] w fun e w' => e = .returned (.string ⟨l.toArray⟩) ∧ Below w.heap.size w w' := by
  have HC0 := Lib.hid (box_cell (Below.refl (w.alloc (.cells #[.int .i32 z] 21)).heap.size (w.alloc (.cells #[.int .i32 z] 21))) 0 (u := .int .i32 z) rfl)
  have HB0 := Lib.hid ((Below.refl w.heap.size w).alloc (Nat.le_refl _) (.cells #[.int .i32 z] 21))
  have hcv := fun W => conv_new l _ HP.out W 1 HL.out
  go_enter Tryz.func119, Tryz.ntmps119
  go_wp2_with (go_at_call 54; refine (size_any _ _).mono ?_; rintro e w' ⟨rfl, rfl⟩; rw [HS.out]; generalize w.alloc (.cells #[.int .i32 z] 21) = V at *; have hc := HC0.out)
  go_ret
  exact ⟨rfl, HB0.out.alloc HB0.out.size _⟩
theorem put_any (r : Int) (w : World) : Calls Tryz.prog 119 #[.int .i32 r] w (PutPost w r) := by
  unfold PutPost
  by_cases hR : isR r
  · have hR' := hR
    rw [isR_iff] at hR'
    obtain ⟨m, rfl⟩ := Int.eq_ofNat_of_zero_le hR'.1
    have hm : m ≤ 1114111 := by omega
    have hlen := put_length (m : Int)
    by_cases h1 : m < 128
    · have hs := sz1 (r := (m : Int)) (by omega) (by omega)
      exact put1_walk _ _ w (by omega) (by omega) (Lib.hid (by rw [hlen, hs])) (Lib.hid hs) (Lib.hid (put_1 m h1))
    by_cases h2 : m < 2048
    · have hs := sz2 (r := (m : Int)) (by omega) (by omega)
      have e1 : m / 64 % 32 = m / 64 := by omega
      have hp := put_2 m h2 h1
      rw [e1] at hp
      exact put2_walk (m : Int) (m / 64) (by omega) (m % 64) (by omega) _ w (by omega) (by omega) (by omega) (Lib.hid (by rw [hlen, hs])) (Lib.hid hs) (Lib.hid hp) (or192 _ (by omega)) (fun g W h => Lib.hid (tail0_any m g W hm h))
    by_cases h3 : m < 65536
    · have hs := sz3 (r := (m : Int)) hR (by omega) (by omega)
      have e1 : m / 4096 % 16 = m / 4096 := by omega
      have hp := put_3 m hR h3 h2
      rw [e1] at hp
      exact put3_walk (m : Int) (m / 4096) (by omega) (m / 64 % 64) (by omega) (m % 64) (by omega) _ w (by omega) (by omega) (by omega) (Lib.hid (by rw [hlen, hs])) (Lib.hid hs) (Lib.hid hp) (or224 _ (by omega)) (fun g => ⟨fun W h => Lib.hid (tail6_any m g W hm h), fun W h => Lib.hid (tail0_any m g W hm h)⟩)
    · have hs := sz4 (r := (m : Int)) hR (by omega)
      have e1 : m / 262144 % 8 = m / 262144 := by omega
      have hp := put_4 m hR h3
      rw [e1] at hp
      exact put4_walk (m : Int) (m / 262144) (by omega) (m / 4096 % 64) (by omega) (m / 64 % 64) (by omega) (m % 64) (by omega) _ w (by omega) (by omega) (by omega) (Lib.hid (by rw [hlen, hs])) (Lib.hid hs) (Lib.hid hp) (or240 _ (by omega)) (fun g => ⟨fun W h => Lib.hid (tail12_any m g W hm h), fun W h => Lib.hid (tail6_any m g W hm h), fun W h => Lib.hid (tail0_any m g W hm h)⟩)
  · rw [put_not hR]
    exact put0_walk r w (Lib.hid (sz_not hR))
end Go.Proofs.YtbokcihlbpeagaaGreatDoor
