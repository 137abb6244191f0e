/-
  What is proved: what the journal's 'before' and 'frame' answer. Conditions: the place lies on the disk; bytes lie in memory as they must.
-/
import Derived.Test.YtbfhlleipeipbaaJr
namespace Go.Proofs.Ytbfhlleipeipbaa
open Go.RowKit

def BeforePost (s : D) (k r : Nat) (w : World) (e : Ending) (w' : World) : Prop :=
  ∃ A c, e = .returned (.tuple #[.slice A r c, .int .i64 0]) ∧ Hold w' A r c ((s.told k).take r) ∧ Below w.heap.size w w'

set_option maxRecDepth 100000 in
set_option maxHeartbeats 400000 in
theorem before_up (w : World) (g L : Nat) (q : Option Nat) (s : D) (h : Dk w g L q s) (k r : Nat) (p : Int) (hp : p = ((64 * k + r : Nat) : Int)) (hr : r < 64) (hk : k < s.last.length) (hup : s.left ≠ 0) (hbuf : s.buf.length ≤ 4611686018427387904) :
    Calls Try.prog 98 #[.pointer (some ⟨g, 0, none⟩), .int .i64 p] w (BeforePost s k r w) := by
  have hmost := h.ok.most
  have hp0 : 0 ≤ p := by omega
  have hp1 : p ≤ 4194304 := by omega
  have hd : p / 64 = (k : Int) := by omega
  have hm : p % 64 = (r : Int) := by omega
  have HR := Lib.hid (read_up h k hk hup hbuf)
  have HD := Lib.hid hd
  have HM := Lib.hid hm
  clear h hd hm hp
  go_enter Try.func98, Try.ntmps98
  go_wp2_with fail
  rw [HD.out]
  refine HR.out.mono ?_
  rintro e w1 ⟨kb, rfl, hh, hkb, hb⟩
  have HH := Lib.hid hh
  have HB := Lib.hid hb
  clear hh hb
  have hr' : (r : Int) ≤ 64 := by omega
  have hr0 : (0 : Int) ≤ p % 64 := by omega
  have hr1 : p % 64 ≤ 64 := by omega
  go_wp2_with fail
  have e : (p % 64).toNat = r := by rw [HM.out]; exact Int.toNat_natCast r
  rw [e]
  go_ret2
  exact ⟨_, _, rfl, HH.out.take (by omega), HB.out⟩

theorem before_down (w : World) (g L : Nat) (q : Option Nat) (s : D) (h : Dk w g L q s) (p : Int) (hp0 : 0 ≤ p) (hp1 : p ≤ 4194304) (hup : s.left = 0) (hbuf : s.buf.length ≤ 4611686018427387904) :
    Calls Try.prog 98 #[.pointer (some ⟨g, 0, none⟩), .int .i64 p] w fun e w' => e = .returned (.tuple #[.slice none 0 0, .int .i64 32]) ∧ w' = w := by
  have hrd : Calls Try.prog 43 #[.pointer (some ⟨g, 0, none⟩), .int .i64 (p / 64)] w fun e w' => e = .returned (.tuple #[.slice none 0 0, .int .i64 32]) ∧ w' = w := by
    refine (read_any w g L q s h (p / 64) hbuf).mono fun e w' hp => ?_
    have hr : s.refuse (p / 64) = 32 := by unfold D.refuse; rw [if_pos hup]
    unfold ReadPost at hp
    rw [if_neg (by rw [hr]; decide), hr] at hp
    exact hp
  have HR := Lib.hid hrd
  clear h hrd
  go_enter Try.func98, Try.ntmps98
  go_wp2_with fail
  refine HR.out.mono ?_
  rintro e w1 ⟨rfl, rfl⟩
  go_wp2_with fail
  go_ret2
  exact ⟨rfl, rfl⟩

theorem putInt_row {w : World} {A : Option Addr} {n c : Nat} {l : List UInt8} (h : Hold w A n c l) (x : Int) (hn : n ≤ 1099511627776) :
    Calls Try.prog 56 #[.slice A n c, .int .i64 x] w fun e w' => ∃ A' c', e = .returned (.slice A' (n + 8) c') ∧ w'.ownsRow w.heap.size 5 1 (.slice A' (n + 8) c') (n + 8) (bv (l ++ dig x)) ∧ Below w.heap.size w w' := by
  refine (putInt_any A n c l x w h (by omega)).mono ?_
  rintro e w' ⟨A', n', c', rfl, ho, hb⟩
  have : n' = n + 8 := by
    have := ho.1
    rw [bv_length, List.length_append, dig_length, h.1] at this
    omega
  subst this
  exact ⟨A', c', rfl, ho, hb⟩
theorem sum_slice (A : Option Addr) (m c' : Nat) (b : List UInt8) (w3 : World) (hh : Hold w3 A m c' b) (hm : m ≤ 140737488355328) : Calls Try.prog 102 #[.slice (some ⟨w3.heap.size, 0, none⟩) 1 1] (w3.alloc (.cells #[.slice A m c'] 43)) fun e w' => e = .returned (.int .u32 ((crc b : Nat) : Int)) ∧ w3.alloc (.cells #[.slice A m c'] 43) = w' := by
  have := sum_any (some ⟨w3.heap.size, 0, none⟩) 1 1 [(A, m, c', b)] (w3.alloc (.cells #[.slice A m c'] 43)) (Parts.one hh hm w3.heap.size rfl) (by omega)
  have e : cat [(A, m, c', b)] = b := by simp [cat]
  rwa [e] at this
/-- what 'frame' answers -/
def FramePost (w : World) (n m : Nat) (l b : List UInt8) (e : Ending) (w' : World) : Prop :=
  ∃ A c, e = .returned (.slice A (n + 8 + 8 + m) c) ∧ w'.ownsRow w.heap.size 5 1 (.slice A (n + 8 + 8 + m) c) (n + 8 + 8 + m) (bv (l ++ frameOf b)) ∧ Below w.heap.size w w'

set_option maxRecDepth 100000 in
set_option maxHeartbeats 400000 in
theorem frame_any (w : World) (A A2 : Option Addr) (n c m c2 : Nat) (l b : List UInt8) (h : Hold w A n c l) (h2 : Hold w A2 m c2 b) (hn : n ≤ 64) (hm : m ≤ 1048576) :
    Calls Try.prog 100 #[.slice A n c, .slice A2 m c2] w (FramePost w n m l b) := by
  have hcr := crc_lt b
  have hfr : l ++ dig (m : Int) ++ dig ((crc b : Nat) : Int) ++ b = l ++ frameOf b := by
    have := h2.1
    subst this
    simp [frameOf]
  have H1 := Lib.hid (putInt_row h (m : Int) (by omega))
  have H2 := Lib.hid h2
  have HF := Lib.hid hfr
  clear h h2 hfr
  have HS := Lib.hid fun w3 hh => sum_slice A2 m c2 b w3 hh (by omega)
  generalize crc b = z at *
  go_enter Try.func100, Try.ntmps100
  go_wp2_with fail
  refine H1.out.mono ?_
  rintro e w1 ⟨A1, c1, rfl, hown1, hb1⟩
  have hh1 := Hold.of_own hown1
  have HB1 := Lib.hid hb1
  have HH1 := Lib.hid hh1
  clear hown1 hb1 hh1
  go_wp2_with fail
  refine (HS.out w1 (H2.out.below HB1.out)).mono ?_
  rintro e w2 ⟨rfl, rfl⟩
  have hal : Below w1.heap.size w1 (w1.alloc (.cells #[.slice A2 m c2] 43)) := (Below.refl _ _).alloc (Nat.le_refl _) _
  have H3 := Lib.hid (putInt_row (HH1.out.below hal) (z : Int) (by omega))
  have HAL := Lib.hid hal
  clear hal
  generalize w1.alloc (.cells #[.slice A2 m c2] 43) = w2 at *
  go_wp2_with fail
  refine H3.out.mono ?_
  rintro e w3 ⟨A3, c3, rfl, hown3, hb3⟩
  have hbw : Below w.heap.size w w2 := HB1.out.trans (HAL.out.mono HB1.out.size)
  have hbw3 : Below w.heap.size w w3 := hbw.trans (hb3.mono hbw.size)
  have HB3 := Lib.hid hbw3
  have HO3 := Lib.hid (own_mono hown3 hbw.size)
  clear hown3 hb3 hbw hbw3
  go_wp2_with (at_builtin; refine wpList_append_hold rfl (.tmp 15) (.tmp 16) rfl w.heap.size (.slice A3 (n + 8 + 8) c3) (n + 8 + 8) (l ++ dig (m : Int) ++ dig (z : Int)) rfl HO3.out A2 m c2 b rfl (H2.out.below HB3.out) (by omega) HB3.out.size ?_; intro A4 c4 w4 hown4 hgrow4)
  go_ret
  rw [HF.out] at hown4
  exact ⟨A4, c4, rfl, hown4, HB3.out.grown hgrow4 HB3.out.size (fun k hk => (HO3.out.lt k hk).1)⟩
end Go.Proofs.Ytbfhlleipeipbaa
