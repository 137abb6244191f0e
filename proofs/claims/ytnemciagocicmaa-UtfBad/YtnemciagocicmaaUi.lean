/-
  What is proved: contracts of Bad, of utf's and the document's, and of the laws' awake. Conditions: those in each statement.
-/
import Derived.Test.YtnemciagocicmaaUh
namespace Go.Proofs.Ytnemciagocicmaa
open Go.RowKit

/-- where a text is no runes -/
def bad (s : ByteArray) : Int := badAt s.data.toList 0
theorem nxAt_nat (s : ByteArray) (k : Nat) : nxAt s (k : Int) = nx (s.data.toList.drop k) := by
  unfold nxAt
  rw [if_neg (by omega)]
  rfl
theorem bad_end {s : ByteArray} {k : Nat} (h : Hid (bad s = badAt s.data.toList k)) (hk : s.size ≤ k) : bad s = -1 := by rw [h.out, badAt_end (by rw [size_toList]; exact hk)]
theorem bad_here {s : ByteArray} {k : Nat} (h : Hid (bad s = badAt s.data.toList k)) (hk : k < s.size) (h0 : (nxAt s (k : Int)).2 = 0) : bad s = k := by
  rw [nxAt_nat] at h0
  rw [h.out, badAt_here (by rw [size_toList]; exact hk) h0]
theorem bad_on {s : ByteArray} {k : Nat} (h : Hid (bad s = badAt s.data.toList k)) (hk : k < s.size) (h0 : (nxAt s (k : Int)).2 ≠ 0) : Hid (bad s = badAt s.data.toList (k + (nxAt s (k : Int)).2)) := by
  rw [nxAt_nat] at h0 ⊢
  exact Lib.hid (by rw [h.out, badAt_on (by rw [size_toList]; exact hk) h0])
theorem nxAt_le (s : ByteArray) (k : Nat) : (nxAt s (k : Int)).2 ≤ 4 ∧ (nxAt s (k : Int)).2 ≤ s.size - k := by
  rw [nxAt_nat]
  have := nx_le (s.data.toList.drop k)
  rw [List.length_drop, size_toList] at this
  exact ⟨this.2, this.1⟩

set_option maxRecDepth 100000 in
theorem bad_any (s : ByteArray) (w : World) (hs : s.size ≤ 140737488355328) :
    Calls Try.prog 19 #[.string s] w fun e w' => e = .returned (.int .i64 (bad s)) ∧ w = w' := by
  have HN := Lib.hid (fun x W => next_any s x W hs)
  go_enter Try.func19, Try.ntmps19
  go_wp2
  go_loop [3] (fun i => ∃ k : Nat, k ≤ s.size ∧ i = .int .i64 k ∧ Hid (bad s = badAt s.data.toList k)) (fun i => s.size - (intOf i).toNat)
  case atStart => exact ⟨0, Nat.zero_le _, rfl, Lib.hid rfl⟩
  case round =>
    obtain ⟨k, hk, rfl, HI⟩ := hrel
    by_cases h1 : k < s.size
    · have hle := nxAt_le s k
      have HX := Lib.hid (HN.out (k : Int))
      by_cases h0 : (nxAt s (k : Int)).2 = 0
      · have HR := Lib.hid (bad_here HI h1 h0)
        generalize nxAt s (k : Int) = p at *
        obtain ⟨r, n⟩ := p
        simp only at h0 hle HX
        subst h0
        go_wp2_with (go_at_call 17; refine (HX.out _).mono ?_; rintro e w' ⟨rfl, rfl⟩)
        go_ret
        exact ⟨by rw [HR.out]; rfl, rfl⟩
      · have HR := bad_on HI h1 h0
        generalize nxAt s (k : Int) = p at *
        obtain ⟨r, n⟩ := p
        simp only at h0 hle HX HR
        have h0z : ¬ (n : Int) = 0 := by omega
        go_wp2_with (go_at_call 17; refine (HX.out _).mono ?_; rintro e w' ⟨rfl, rfl⟩)
        go_round
        case rel => exact ⟨k + n, by omega, by go_num, HR⟩
        case measure => simp [intOf]; omega
    · have HR := Lib.hid (bad_end HI (by omega))
      go_wp2
      go_ret
      exact ⟨by rw [HR.out]; rfl, rfl⟩

set_option maxRecDepth 100000 in
theorem refBad_any (s : ByteArray) (w : World) (hs : s.size ≤ 140737488355328) :
    Calls Try.prog 20 #[.string s] w fun e w' => e = .returned (.int .i64 (bad s)) ∧ Below w.heap.size w w' := by
  have HN := Lib.hid (fun x W => refNext_any s x W hs)
  go_enter Try.func20, Try.ntmps20
  go_wp2
  go_loopg [3] s.size (fun kx v3 wr => ∃ k : Nat, v3 = .int .i64 (k : Int) ∧ k ≤ s.size ∧ s.size - k ≤ kx ∧ Hid (bad s = badAt s.data.toList k) ∧ Hid (Below w.heap.size w wr))
  case atStart => exact ⟨0, rfl, Nat.zero_le _, by omega, Lib.hid rfl, Lib.hid (Below.refl _ _)⟩
  case round =>
    obtain ⟨k, rfl, hk, hkx, HI, HB⟩ := hrel
    by_cases h1 : k < s.size
    · have hle := nxAt_le s k
      have HX := Lib.hid (HN.out (k : Int))
      by_cases h0 : (nxAt s (k : Int)).2 = 0
      · have HR := Lib.hid (bad_here HI h1 h0)
        generalize nxAt s (k : Int) = p at *
        obtain ⟨r, n⟩ := p
        simp only at h0 hle HX
        subst h0
        go_wp2_with (go_at_call 18; refine (HX.out _).mono ?_; rintro e w' ⟨rfl, hb⟩; have HB2 := Lib.hid hb; clear hb)
        go_ret
        exact ⟨by rw [HR.out]; rfl, HB.out.trans (HB2.out.mono HB.out.size)⟩
      · have HR := bad_on HI h1 h0
        generalize nxAt s (k : Int) = p at *
        obtain ⟨r, n⟩ := p
        simp only at h0 hle HX HR
        have h0z : ¬ (n : Int) = 0 := by omega
        go_wp2_with (go_at_call 18; refine (HX.out _).mono ?_; rintro e w' ⟨rfl, hb⟩; have HB2 := Lib.hid hb; clear hb)
        go_roundg (s.size - (k + n))
        case measure => omega
        case rel => exact ⟨k + n, by go_num, by omega, Nat.le_refl _, HR, Lib.hid (HB.out.trans (HB2.out.mono HB.out.size))⟩
    · have HR := Lib.hid (bad_end HI (by omega))
      go_wp2
      go_ret
      exact ⟨by rw [HR.out]; rfl, HB.out⟩

theorem awk1 : nxAt ⟨#[195, 169]⟩ 0 = (233, 2) := by decide +kernel
theorem awk2 : nxAt ⟨#[192, 128]⟩ 0 = (0, 0) := by decide +kernel
theorem awk3 : plc ((⟨#[97, 10, 98, 99]⟩ : ByteArray).data.toList.take (3 : Int).toNat) = (2, 2) := by decide +kernel
theorem awk4 : put 233 = [195, 169] := by decide +kernel
theorem awk5 : bad ⟨#[97, 195]⟩ = 1 := by
  unfold bad
  rw [badAt_on (by decide +kernel) (by decide +kernel)]
  exact badAt_here (k := 1) (by decide +kernel) (by decide +kernel)
set_option maxRecDepth 100000 in
set_option maxHeartbeats 1000000 in
theorem awake_any (w : World) : Calls Try.prog 8 #[] w fun e w' => e = .returned (.bool true) ∧ Below w.heap.size w w' := by
  have H1 := fun W => next_any ⟨#[195, 169]⟩ 0 W (by decide +kernel)
  have H2 := fun W => next_any ⟨#[192, 128]⟩ 0 W (by decide +kernel)
  have H3 := fun W => place_any ⟨#[97, 10, 98, 99]⟩ 3 W (by decide +kernel)
  have H4 := fun W => put_any 233 W
  have H5 := fun W => bad_any ⟨#[97, 195]⟩ W (by decide +kernel)
  unfold PutPost at H4
  rw [awk1] at H1
  rw [awk2] at H2
  rw [awk3] at H3
  rw [awk4] at H4
  rw [awk5] at H5
  have G1 := fun W => Lib.hid (H1 W)
  have G2 := fun W => Lib.hid (H2 W)
  have G3 := fun W => Lib.hid (H3 W)
  have G4 := fun W => Lib.hid (H4 W)
  have G5 := fun W => Lib.hid (H5 W)
  clear H1 H2 H3 H4 H5
  go_enter Try.func8, Try.ntmps8
  go_wp2_with (first
    | ((with_reducible refine (G1 _).out.mono ?_); rintro e w' ⟨rfl, rfl⟩)
    | ((with_reducible refine (G2 _).out.mono ?_); rintro e w' ⟨rfl, rfl⟩)
    | ((with_reducible refine (G3 _).out.mono ?_); rintro e w' ⟨rfl, rfl⟩)
    | ((with_reducible refine (G4 _).out.mono ?_); rintro e w' ⟨rfl, hb⟩; have HB := Lib.hid hb; clear hb)
    | ((with_reducible refine (G5 _).out.mono ?_); rintro e w' ⟨rfl, rfl⟩)
    | (go_at_call 13; refine (letter_is 113 true (by decide +kernel) _).mono ?_; rintro e w' ⟨rfl, rfl⟩)
    | (go_at_call 11; refine (char_is 1 false (by decide +kernel) _).mono ?_; rintro e w' ⟨rfl, rfl⟩))
  go_ret
  exact ⟨rfl, HB.out⟩
end Go.Proofs.Ytnemciagocicmaa
