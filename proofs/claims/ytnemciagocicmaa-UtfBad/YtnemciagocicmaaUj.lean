/-
  What is proved: the walks of the laws UtfPuts, UtfNexts, UtfBad and UtfPlaces: each returns true and turns nothing that was there. Conditions: a text is within Go's own reach.
-/
import Derived.Test.YtnemciagocicmaaUi
namespace Go.Proofs.Ytnemciagocicmaa
open Go.RowKit

set_option maxRecDepth 100000 in
set_option maxHeartbeats 1000000 in
theorem utfPuts_walk (r : Int) (w : World) : Calls Try.prog 3 #[.int .i32 r] w fun e w' => e = .returned (.bool true) ∧ Below w.heap.size w w' := by
  have G1 := fun W => Lib.hid (put_any r W)
  have G2 := fun W => Lib.hid (refPut_any r W)
  have C1 := fun W => Lib.hid (char_is r _ rfl W)
  have C2 := fun W => Lib.hid (refChar_is r _ rfl W)
  have L1 := fun W => Lib.hid (letter_is r _ rfl W)
  have L2 := fun W => Lib.hid (refLetter_is r _ rfl W)
  have N1 := fun W => Lib.hid (name_is r _ rfl W)
  have N2 := fun W => Lib.hid (refName_is r _ rfl W)
  generalize decide (isC r) = c at *
  generalize decide (isL r) = l at *
  generalize decide (isN r) = n at *
  go_enter Try.func3, Try.ntmps3
  go_wp2_with (first
    | (go_at_call 8; refine (awake_any _).mono ?_; rintro e w1 ⟨rfl, hb1⟩; have HB1 := Lib.hid hb1; clear hb1)
    | (go_at_call 9; refine (G1 _).out.mono ?_; rintro e w2 ⟨rfl, hb2⟩; have HB2 := Lib.hid hb2; clear hb2)
    | (go_at_call 10; refine (G2 _).out.mono ?_; rintro e w3 ⟨A, n', c', rfl, hh, hb3⟩; have hcv := conv_hold hh; clear hh; have HB3 := Lib.hid hb3; clear hb3)
    | (go_at_call 11; refine (C1 _).out.mono ?_; rintro e w' ⟨rfl, rfl⟩)
    | (go_at_call 12; refine (C2 _).out.mono ?_; rintro e w' ⟨rfl, rfl⟩)
    | (go_at_call 13; refine (L1 _).out.mono ?_; rintro e w' ⟨rfl, rfl⟩)
    | (go_at_call 14; refine (L2 _).out.mono ?_; rintro e w' ⟨rfl, rfl⟩)
    | (go_at_call 15; refine (N1 _).out.mono ?_; rintro e w' ⟨rfl, rfl⟩)
    | (go_at_call 16; refine (N2 _).out.mono ?_; rintro e w' ⟨rfl, rfl⟩))
  go_ret
  have hb12 := HB1.out.trans (HB2.out.mono HB1.out.size)
  exact ⟨by simp, hb12.trans (HB3.out.mono hb12.size)⟩

set_option maxRecDepth 100000 in
set_option maxHeartbeats 1000000 in
theorem utfNexts_walk (s : ByteArray) (x : Int) (w : World) (hs : s.size ≤ 140737488355328) : Calls Try.prog 4 #[.string s, .int .i64 x] w fun e w' => e = .returned (.bool true) ∧ Below w.heap.size w w' := by
  have G1 := fun W => Lib.hid (next_any s x W hs)
  have G2 := fun W => Lib.hid (refNext_any s x W hs)
  have B1 := fun W => Lib.hid (bad_any s W hs)
  have B2 := fun W => Lib.hid (refBad_any s W hs)
  generalize nxAt s x = p at *
  generalize bad s = b at *
  obtain ⟨r, n⟩ := p
  go_enter Try.func4, Try.ntmps4
  go_wp2_with (first
    | (go_at_call 8; refine (awake_any _).mono ?_; rintro e w1 ⟨rfl, hb1⟩; have HB1 := Lib.hid hb1; clear hb1)
    | (go_at_call 17; refine (G1 _).out.mono ?_; rintro e w' ⟨rfl, rfl⟩)
    | (go_at_call 18; refine (G2 _).out.mono ?_; rintro e w2 ⟨rfl, hb2⟩; have HB2 := Lib.hid hb2; clear hb2)
    | (go_at_call 19; refine (B1 _).out.mono ?_; rintro e w' ⟨rfl, rfl⟩)
    | (go_at_call 20; refine (B2 _).out.mono ?_; rintro e w3 ⟨rfl, hb3⟩; have HB3 := Lib.hid hb3; clear hb3))
  go_ret
  have hb12 := HB2.out.trans (HB1.out.mono HB2.out.size)
  exact ⟨by simp, hb12.trans (HB3.out.mono hb12.size)⟩

theorem take_extract (s : ByteArray) (k : Nat) : (s.extract 0 k).data.toList = s.data.toList.take k := by
  rw [ByteArray.data_extract]
  simp
theorem bad_take (s : ByteArray) (k : Nat) : bad (s.extract 0 k) = badAt (s.data.toList.take k) 0 := by
  unfold bad
  rw [take_extract]
theorem ext_size (s : ByteArray) (k : Nat) : (s.extract 0 k).size ≤ s.size := by
  have := congrArg List.length (take_extract s k)
  rw [size_toList, List.length_take, size_toList] at this
  omega
set_option maxRecDepth 100000 in
set_option maxHeartbeats 1000000 in
theorem utfBad_walk (s : ByteArray) (w : World) (hs : s.size ≤ 140737488355328) : Calls Try.prog 6 #[.string s] w fun e w' => e = .returned (.bool true) ∧ Below w.heap.size w w' := by
  rcases badAt_ways s.data.toList _ 0 rfl with h | ⟨k, h1, _, h2, h3, h4, h5⟩
  · have hv : bad s = -1 := h
    have B1 := fun W => Lib.hid (bad_any s W hs)
    have B2 := fun W => Lib.hid (refBad_any s W hs)
    rw [hv] at B1 B2
    clear h hv
    go_enter Try.func6, Try.ntmps6
    go_wp2_with (first
      | (go_at_call 8; refine (awake_any _).mono ?_; rintro e w1 ⟨rfl, hb1⟩; have HB1 := Lib.hid hb1; clear hb1)
      | (go_at_call 19; refine (B1 _).out.mono ?_; rintro e w' ⟨rfl, rfl⟩)
      | (go_at_call 20; refine (B2 _).out.mono ?_; rintro e w3 ⟨rfl, hb3⟩; have HB3 := Lib.hid hb3; clear hb3))
    go_ret
    exact ⟨rfl, HB1.out.trans (HB3.out.mono HB1.out.size)⟩
  · have hk : k < s.size := by rw [← size_toList]; exact h2
    have hv : bad s = k := h1
    have hn : nxAt s (k : Int) = (0, 0) := by
      rw [nxAt_nat]
      rcases nx_read (s.data.toList.drop k) with e | ⟨r, g1, g2, _, _⟩
      · exact e
      · rw [g2] at h3
        have := sz_pos g1
        simp at h3
        omega
    have B1 := fun W => Lib.hid (bad_any s W hs)
    rw [hv] at B1
    have G1 := fun W => Lib.hid (next_any s (k : Int) W hs)
    rw [hn] at G1
    have B3 := fun W => Lib.hid (bad_any (s.extract 0 k) W (Nat.le_trans (ext_size s k) hs))
    rw [show bad (s.extract 0 k) = -1 from (bad_take s k).trans h4] at B3
    have B4 := fun W => Lib.hid (bad_any (s.extract 0 (k + 1)) W (Nat.le_trans (ext_size s (k + 1)) hs))
    rw [show bad (s.extract 0 (k + 1)) = k from (bad_take s (k + 1)).trans h5] at B4
    clear h1 h2 h3 h4 h5 hv hn
    have hne : ((k : Int) == -1) = false := beq_eq_false_iff_ne.2 (by omega)
    go_enter Try.func6, Try.ntmps6
    go_wp2_with (first
      | (go_at_call 8; refine (awake_any _).mono ?_; rintro e w1 ⟨rfl, hb1⟩; have HB1 := Lib.hid hb1; clear hb1)
      | (go_at_call 17; refine (G1 _).out.mono ?_; rintro e w' ⟨rfl, rfl⟩)
      | (go_at_call 19; (with_reducible refine (B1 _).out.mono ?_); rintro e w' ⟨rfl, rfl⟩)
      | (go_at_call 19; (with_reducible refine (B3 _).out.mono ?_); rintro e w' ⟨rfl, rfl⟩)
      | (go_at_call 19; (with_reducible refine (B4 _).out.mono ?_); rintro e w' ⟨rfl, rfl⟩))
    go_ret
    exact ⟨by simp, HB1.out⟩

theorem plc_out (s : ByteArray) (x : Int) (h : (s.size : Int) ≤ x) : s.data.toList.take x.toNat = s.data.toList := List.take_of_length_le (by rw [size_toList]; omega)
set_option maxRecDepth 100000 in
set_option maxHeartbeats 1000000 in
theorem utfPlaces_walk (s : ByteArray) (x : Int) (w : World) (hs : s.size ≤ 140737488355328) : Calls Try.prog 7 #[.string s, .int .i64 x] w fun e w' => e = .returned (.bool true) ∧ Below w.heap.size w w' := by
  have G1 := fun W => Lib.hid (place_any s x W hs)
  have G2 := fun W => Lib.hid (line_any s x W hs)
  have G3 := fun W => Lib.hid (col_any s x W hs)
  by_cases g1 : x < 0
  · generalize plc (s.data.toList.take x.toNat) = p at *
    go_enter Try.func7, Try.ntmps7
    go_wp2_with (first
      | (go_at_call 8; refine (awake_any _).mono ?_; rintro e w1 ⟨rfl, hb1⟩; have HB1 := Lib.hid hb1; clear hb1)
      | (go_at_call 21; refine (G1 _).out.mono ?_; rintro e w' ⟨rfl, rfl⟩)
      | (go_at_call 22; refine (G2 _).out.mono ?_; rintro e w' ⟨rfl, rfl⟩)
      | (go_at_call 23; refine (G3 _).out.mono ?_; rintro e w' ⟨rfl, rfl⟩))
    go_ret
    exact ⟨rfl, HB1.out⟩
  by_cases g2 : (s.size : Int) ≤ x
  · generalize plc (s.data.toList.take x.toNat) = p at *
    go_enter Try.func7, Try.ntmps7
    go_wp2_with (first
      | (go_at_call 8; refine (awake_any _).mono ?_; rintro e w1 ⟨rfl, hb1⟩; have HB1 := Lib.hid hb1; clear hb1)
      | (go_at_call 21; refine (G1 _).out.mono ?_; rintro e w' ⟨rfl, rfl⟩)
      | (go_at_call 22; refine (G2 _).out.mono ?_; rintro e w' ⟨rfl, rfl⟩)
      | (go_at_call 23; refine (G3 _).out.mono ?_; rintro e w' ⟨rfl, rfl⟩))
    go_ret
    exact ⟨rfl, HB1.out⟩
  obtain ⟨k, rfl⟩ := Int.eq_ofNat_of_zero_le (show 0 ≤ x by omega)
  have hk : k < s.size := by omega
  have G4 := fun W => Lib.hid (place_any s ((k : Int) + 1) W hs)
  have e1 : ((k : Int) + 1).toNat = k + 1 := by omega
  have hX := plc_le s.data.toList k
  simp only [Int.toNat_natCast] at G1 G2 G3
  rw [e1] at G4
  clear e1
  by_cases hb : s[k].toNat = 10
  · rw [plc_yes s k hk hb] at G4
    generalize plc (s.data.toList.take k) = p at *
    obtain ⟨ln, cl⟩ := p
    simp only at hX
    go_enter Try.func7, Try.ntmps7
    go_wp2_with (first
      | (go_at_call 8; refine (awake_any _).mono ?_; rintro e w1 ⟨rfl, hb1⟩; have HB1 := Lib.hid hb1; clear hb1)
      | (go_at_call 21; (with_reducible refine (G1 _).out.mono ?_); rintro e w' ⟨rfl, rfl⟩)
      | (go_at_call 21; (with_reducible refine (G4 _).out.mono ?_); rintro e w' ⟨rfl, rfl⟩)
      | (go_at_call 22; refine (G2 _).out.mono ?_; rintro e w' ⟨rfl, rfl⟩)
      | (go_at_call 23; refine (G3 _).out.mono ?_; rintro e w' ⟨rfl, rfl⟩))
    go_ret
    exact ⟨by simp, HB1.out⟩
  · rw [plc_no s k hk hb] at G4
    generalize plc (s.data.toList.take k) = p at *
    obtain ⟨ln, cl⟩ := p
    simp only at hX
    have hb' : ((s[k].toNat : Int) == 10) = false := beq_eq_false_iff_ne.2 (by omega)
    go_enter Try.func7, Try.ntmps7
    go_wp2_with (first
      | (go_at_call 8; refine (awake_any _).mono ?_; rintro e w1 ⟨rfl, hb1⟩; have HB1 := Lib.hid hb1; clear hb1)
      | (go_at_call 21; (with_reducible refine (G1 _).out.mono ?_); rintro e w' ⟨rfl, rfl⟩)
      | (go_at_call 21; (with_reducible refine (G4 _).out.mono ?_); rintro e w' ⟨rfl, rfl⟩)
      | (go_at_call 22; refine (G2 _).out.mono ?_; rintro e w' ⟨rfl, rfl⟩)
      | (go_at_call 23; refine (G3 _).out.mono ?_; rintro e w' ⟨rfl, rfl⟩))
    go_ret
    exact ⟨by simp, HB1.out⟩
end Go.Proofs.Ytnemciagocicmaa
