/-
  What is proved: the walk of the law DiskArmed: for every number and all bools it returns true and turns nothing that was there. Conditions: the number of bools is within Go's own reach.
-/
import Derived.Test.YtmajmohnnfjiaaaAwake
namespace Go.Proofs.Ytmajmohnnfjiaaa
open Go.RowKit

/-- an armed disk of three sectors -/
structure Arm3 (s : D) (lf : Nat) : Prop where
  left : s.left = (lf : Int)
  len : s.last.length = 3
  buf : s.buf.length + lf ≤ 16
theorem Arm3.new (lf : Nat) (h : lf ≤ 15) : Arm3 ((newSt 3).aSt (lf : Int)) lf := by
  have e : (newSt 3).aSt (lf : Int) = ⟨(newSt 3).last, (newSt 3).buf, (lf : Int)⟩ := by unfold D.aSt; rw [if_neg (by decide)]
  rw [e]
  exact ⟨rfl, by simp [newSt], by simp [newSt]; omega⟩
theorem Arm3.flush {s : D} {lf : Nat} (h : Arm3 s (lf + 1)) : s.fErr = 0 ∧ Arm3 s.fSt lf := by
  have h0 : ¬ s.left = 0 := by have := h.left; omega
  unfold D.fErr D.fSt
  rw [if_neg h0, if_neg h0]
  refine ⟨rfl, ?_, ?_, ?_⟩
  · unfold tick; have := h.left; simp only; split <;> omega
  · simp only [settle_length]; exact h.len
  · have := h.buf; simp; omega
theorem Arm3.flush0 {s : D} (h : Arm3 s 0) : s.fErr = 32 ∧ s.fSt = s := by
  have h0 : s.left = 0 := by have := h.left; omega
  unfold D.fErr D.fSt
  rw [if_pos h0, if_pos h0]
  exact ⟨rfl, rfl⟩
theorem Arm3.refuse {s : D} {lf : Nat} (h : Arm3 s (lf + 1)) {i : Int} (h1 : 0 ≤ i) (h2 : i < 3) : s.refuse i = 0 := by
  have h0 : ¬ s.left = 0 := by have := h.left; omega
  unfold D.refuse
  rw [if_neg h0, if_neg (by rw [h.len]; omega)]
theorem Arm3.write {s : D} {lf : Nat} (h : Arm3 s (lf + 1)) {i : Int} (h1 : 0 ≤ i) (h2 : i < 3) (b : UInt8) : s.wErr i 1 = 0 ∧ Arm3 (s.wSt i [b]) lf := by
  have hr := h.refuse h1 h2
  refine ⟨wErr_zero hr (by omega), ?_⟩
  rw [wSt_zero hr (by simp)]
  refine ⟨?_, h.len, ?_⟩
  · unfold tick; have := h.left; simp only; split <;> omega
  · have := h.buf; simp; omega
theorem Arm3.write0 {s : D} (h : Arm3 s 0) (i : Int) (n : Nat) (l : List UInt8) : s.wErr i n = 32 ∧ s.wSt i l = s := by
  have h0 : s.left = 0 := by have := h.left; omega
  have hr : s.refuse i = 32 := by unfold D.refuse; rw [if_pos h0]
  exact ⟨by rw [wErr_ref (by rw [hr]; decide), hr], wSt_ref (by rw [hr]; decide)⟩
theorem Arm3.arm0 {s : D} (h : Arm3 s 0) (n : Int) : s.aSt n = s := by
  unfold D.aSt; rw [if_pos (by have := h.left; omega)]
/-- behind the law's last crash -/
theorem Arm3.last {s : D} {lf : Nat} (h : Arm3 s lf) (hok : s.Ok) : ((s.aSt (-1)).cSt 0 0).left = -1 ∧ ((s.aSt (-1)).cSt 0 0).buf = [] ∧ ((s.aSt (-1)).cSt 0 0).wErr 0 0 = 0 := by
  refine ⟨rfl, rfl, wErr_zero ?_ (by omega)⟩
  have hl : ((s.aSt (-1)).cSt 0 0).last.length = (s.aSt (-1)).last.length := ((hok.aSt (-1) (by omega) (by omega)).cLast_ok 0 0).2
  have hl2 : (s.aSt (-1)).last = s.last := by unfold D.aSt; split <;> rfl
  unfold D.refuse
  rw [if_neg (by show ¬ (-1 : Int) = 0; omega), if_neg (by rw [hl, hl2, h.len]; omega)]
theorem aSt_buf (s : D) (n : Int) : (s.aSt n).buf = s.buf := by unfold D.aSt; split <;> rfl

/-- '.slice A N C' reads as these bools -/
def Bools (w : World) (A : Option Addr) (N : Nat) (bs : List Bool) : Prop := bs.length = N ∧ (0 < N → ∃ b off, A = some ⟨b, off, none⟩ ∧ ∀ j (hj : j < bs.length), w.cell? ⟨b, off + j, none⟩ = some (.bool bs[j]))
theorem Bools.at {w w' : World} {A : Option Addr} {N : Nat} {bs : List Bool} (h : Bools w A N bs) (hb : Below w.heap.size w w') {k : Nat} (hk : k < N) : ∃ b off x, A = some ⟨b, off, none⟩ ∧ w'.cell? ⟨b, off + k, none⟩ = some (.bool x) := by
  obtain ⟨b, off, e, hc⟩ := h.2 (by omega)
  exact ⟨b, off, _, e, cell_later hb (hc k (by rw [h.1]; exact hk))⟩
theorem hold_byte (w : World) (x y : Int) (hy : y = x % 256) : Hold (w.alloc (.cells #[.int .u8 y] 5)) (some ⟨w.heap.size, 0, none⟩) 1 1 [byteOf x] := by
  have := Hold.new w [byteOf x] 5 (0, 0) _ rfl
  have e : (bv [byteOf x]).toArray = #[.int .u8 y] := by simp [bv, byteOf_cast, hy]
  rw [e] at this
  exact this

set_option maxRecDepth 100000 in
set_option maxHeartbeats 2000000 in
theorem diskArmed_walk (m : Nat) (A : Option Addr) (N C : Nat) (bs : List Bool) (w : World) (h : Bools w A N bs) (hm : m < 256) (hN : N ≤ 140737488355328) :
    Calls Try.prog 5 #[.int .u8 (m : Int), .slice A N C] w fun e w' => e = .returned (.bool true) ∧ Below w.heap.size w w' := by
  have H := Lib.hid h
  clear h
  go_enter Try.func5, Try.ntmps5
  go_wp2_with fail
  refine (new_mine w w 3 (Below.refl _ _)).mono ?_
  rintro e w1 ⟨g, rfl, h1, _, _⟩
  have H1 : Hid (Mine w w1 g (newSt 3)) := h1
  clear h1
  go_wp2_with fail
  refine (awake_any w1).mono ?_
  rintro e w2 ⟨rfl, hb2⟩
  have H2 := Lib.hid (H1.out.below hb2)
  clear H1 hb2
  go_wp2_with fail
  refine (arm_mine H2.out _ (by omega) (by omega)).mono ?_
  rintro e w3 ⟨rfl, h3, _⟩
  obtain ⟨a, ha⟩ : ∃ a : Nat, a = m % 16 := ⟨_, rfl⟩
  have ha' : (m : Int) % 16 = (a : Int) := by omega
  rw [ha'] at h3
  have HA := Lib.hid (Arm3.new a (by omega))
  have H3 := Lib.hid h3
  have HE : Hid ((m : Int) % 16 = (a : Int)) := ha'
  clear h3 H2 ha ha'
  go_wp2_with fail
  go_loopw [6, 7] (fun f i wr => ∃ (k lf : Nat) (s : D), k ≤ N ∧ i = .int .i64 (k : Int) ∧ f = .int .i64 (lf : Int) ∧ Arm3 s lf ∧ Mine w wr g s) (fun _ i _ => N - (intOf i).toNat)
  case atStart => exact ⟨0, a, _, by omega, rfl, by rw [HE.out], HA.out, H3.out⟩
  case round =>
    obtain ⟨k, lf, s, hk, rfl, rfl, ha, hM⟩ := hrel
    have HA := Lib.hid ha
    have HM := Lib.hid hM
    have hbl : s.buf.length ≤ 16 := by have := ha.buf; omega
    clear ha hM H3
    by_cases hlt : k < N
    · obtain ⟨b, off, x, rfl, hcell⟩ := H.out.at HM.out.b hlt
      have hk0 : (0 : Int) ≤ (k : Int) := Int.natCast_nonneg _
      have hk1 : (k : Int) < (N : Int) := by omega
      cases lf with
      | zero =>
        cases x
        · go_wp2_with fail
          refine (write_mine (HM.out.alloc _) _ _ 1 1 [byteOf k] (hold_byte wr k _ rfl) (by omega) (by omega)).mono ?_
          rintro e w5 ⟨rfl, h5, _⟩
          rw [(HA.out.write0 _ 1 [byteOf k]).1]
          rw [(HA.out.write0 _ 1 [byteOf k]).2] at h5
          have H5 := Lib.hid h5
          clear h5
          have hz : decide (s.left = 0) = true := by have := HA.out.left; simp; omega
          go_wp2_with fail
          refine (down_mine H5.out).mono ?_
          rintro e w6 ⟨rfl, rfl⟩
          rw [hz]
          go_wp2_with fail
          refine (arm_mine H5.out 99 (by omega) (by omega)).mono ?_
          rintro e w7 ⟨rfl, h7, _⟩
          rw [HA.out.arm0] at h7
          have H7 := Lib.hid h7
          clear h7 H5
          go_wp2_with fail
          go_roundw
          case rel => exact ⟨k + 1, 0, s, by omega, by go_num, rfl, HA.out, H7.out⟩
          case measure => simp [intOf]; omega
        · go_wp2_with fail
          refine (flush_mine HM.out (by omega)).mono ?_
          rintro e w5 ⟨rfl, h5, _⟩
          rw [HA.out.flush0.1]
          rw [HA.out.flush0.2] at h5
          have H5 := Lib.hid h5
          clear h5
          have hz : decide (s.left = 0) = true := by have := HA.out.left; simp; omega
          go_wp2_with fail
          refine (down_mine H5.out).mono ?_
          rintro e w6 ⟨rfl, rfl⟩
          rw [hz]
          go_wp2_with fail
          refine (arm_mine H5.out 99 (by omega) (by omega)).mono ?_
          rintro e w7 ⟨rfl, h7, _⟩
          rw [HA.out.arm0] at h7
          have H7 := Lib.hid h7
          clear h7 H5
          go_wp2_with fail
          go_roundw
          case rel => exact ⟨k + 1, 0, s, by omega, by go_num, rfl, HA.out, H7.out⟩
          case measure => simp [intOf]; omega
      | succ lf =>
        have hl0 : (lf : Int) + 1 ≤ 16 := by have := HA.out.buf; omega
        cases x
        · go_wp2_with fail
          refine (write_mine (HM.out.alloc _) _ _ 1 1 [byteOf k] (hold_byte wr k _ rfl) (by omega) (by omega)).mono ?_
          rintro e w5 ⟨rfl, h5, _⟩
          have hw := HA.out.write (i := (k : Int) % 3) (by omega) (by omega) (byteOf k)
          rw [hw.1]
          have HA1 := Lib.hid hw.2
          have H5 := Lib.hid h5
          clear h5 hw
          generalize s.wSt ((k : Int) % 3) [byteOf k] = s1 at *
          cases lf with
          | zero =>
            have hz : decide (s1.left = 0) = true := by have := HA1.out.left; simp; omega
            go_wp2_with fail
            refine (down_mine H5.out).mono ?_
            rintro e w6 ⟨rfl, rfl⟩
            rw [hz]
            go_wp2_with fail
            refine (arm_mine H5.out 99 (by omega) (by omega)).mono ?_
            rintro e w7 ⟨rfl, h7, _⟩
            rw [HA1.out.arm0] at h7
            have H7 := Lib.hid h7
            clear h7 H5
            go_wp2_with fail
            go_roundw
            case rel => exact ⟨k + 1, 0, s1, by omega, by go_num, by go_num, HA1.out, H7.out⟩
            case measure => simp [intOf]; omega
          | succ lf =>
            have hz : decide (s1.left = 0) = false := by have := HA1.out.left; simp; omega
            have hl1 : (lf : Int) + 1 ≤ 16 := by have := HA1.out.buf; omega
            go_wp2_with fail
            refine (down_mine H5.out).mono ?_
            rintro e w6 ⟨rfl, rfl⟩
            rw [hz]
            go_wp2_with fail
            go_roundw
            case rel => exact ⟨k + 1, lf + 1, s1, by omega, by go_num, by go_num, HA1.out, H5.out⟩
            case measure => simp [intOf]; omega
        · go_wp2_with fail
          refine (flush_mine HM.out (by omega)).mono ?_
          rintro e w5 ⟨rfl, h5, _⟩
          have hw := HA.out.flush
          rw [hw.1]
          have HA1 := Lib.hid hw.2
          have H5 := Lib.hid h5
          clear h5 hw
          generalize s.fSt = s1 at *
          cases lf with
          | zero =>
            have hz : decide (s1.left = 0) = true := by have := HA1.out.left; simp; omega
            go_wp2_with fail
            refine (down_mine H5.out).mono ?_
            rintro e w6 ⟨rfl, rfl⟩
            rw [hz]
            go_wp2_with fail
            refine (arm_mine H5.out 99 (by omega) (by omega)).mono ?_
            rintro e w7 ⟨rfl, h7, _⟩
            rw [HA1.out.arm0] at h7
            have H7 := Lib.hid h7
            clear h7 H5
            go_wp2_with fail
            go_roundw
            case rel => exact ⟨k + 1, 0, s1, by omega, by go_num, by go_num, HA1.out, H7.out⟩
            case measure => simp [intOf]; omega
          | succ lf =>
            have hz : decide (s1.left = 0) = false := by have := HA1.out.left; simp; omega
            have hl1 : (lf : Int) + 1 ≤ 16 := by have := HA1.out.buf; omega
            go_wp2_with fail
            refine (down_mine H5.out).mono ?_
            rintro e w6 ⟨rfl, rfl⟩
            rw [hz]
            go_wp2_with fail
            go_roundw
            case rel => exact ⟨k + 1, lf + 1, s1, by omega, by go_num, by go_num, HA1.out, H5.out⟩
            case measure => simp [intOf]; omega
    · obtain rfl : k = N := by omega
      have hl := HA.out.last HM.out.ok
      have HLL := Lib.hid hl
      clear hl
      go_wp2_with fail
      refine (arm_mine HM.out (-1) (by omega) (by omega)).mono ?_
      rintro e w5 ⟨rfl, h5, _⟩
      have H5 := Lib.hid h5
      clear h5
      go_wp2_with fail
      refine (crash_mine H5.out 0 0 (by rw [aSt_buf]; omega)).mono ?_
      rintro e w6 ⟨rfl, h6, _⟩
      have H6 := Lib.hid h6
      clear h6 H5
      generalize (s.aSt (-1)).cSt 0 0 = s2 at *
      have hz : decide (s2.left = 0) = false := by have := HLL.out.1; simp; omega
      go_wp2_with fail
      refine (down_mine H6.out).mono ?_
      rintro e w7 ⟨rfl, rfl⟩
      rw [hz]
      go_wp2_with fail
      refine (write_mine H6.out 0 none 0 0 [] (Hold.nil _) (by omega) (by rw [HLL.out.2.1]; simp)).mono ?_
      rintro e w8 ⟨rfl, h8, _⟩
      rw [HLL.out.2.2]
      have H8 := Lib.hid h8.b
      clear h8
      go_wp2_with fail
      go_ret
      exact ⟨rfl, H8.out⟩
end Go.Proofs.Ytmajmohnnfjiaaa
