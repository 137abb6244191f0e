/-
  What is proved: contracts of the document's at, White, blanks, missing, find and name. Conditions: those in each statement.
-/
import Derived.Test.YtbokcihlbpeagaaGreatDoorNa
import Derived.Test.YtbokcihlbpeagaaGreatDoorVa
import Derived.Test.YtbokcihlbpeagaaGreatDoorVh
namespace Go.Proofs.YtbokcihlbpeagaaGreatDoor
open Go.RowKit

theorem size_data (p : ByteArray) : p.data.toList.length = p.size := size_toList p
theorem at_hit (s p : ByteArray) (k : Nat) (_hk : k ≤ s.size) (h : p.size ≤ s.size - k) : ((s.extract k (k + p.size)).toList == p.toList) = Lib.hasPrefix (tl s k) p.data.toList := by
  rw [← Lib.hasPrefix_of_take, size_data, tl_length, decide_eq_true h, Bool.true_and, Lib.toList_data, Lib.toList_data, Lib.extract_data, Nat.add_sub_cancel_left]
  rfl
theorem at_miss (s p : ByteArray) (k : Nat) (h : s.size - k < p.size) : Lib.hasPrefix (tl s k) p.data.toList = false := by
  rw [← Lib.hasPrefix_of_take, size_data, tl_length, decide_eq_false (by omega), Bool.false_and]
set_option maxRecDepth 100000 in
theorem dAt_is (s p : ByteArray) (k : Nat) (b : Bool) (hb : b = Lib.hasPrefix (tl s k) p.data.toList) (hk : k ≤ s.size) (hs : s.size ≤ 140737488355328) (hp : p.size ≤ 140737488355328) (w : World) :
    Calls Tryz.prog 23 #[.string s, .int .i64 (k : Int), .string p] w fun e w' => e = .returned (.bool b) ∧ w = w' := by
  have k0 : (0 : Int) ≤ (k : Int) := by omega
  have hw1 : wrap64 ((s.size : Int) - (k : Int)) = (s.size : Int) - (k : Int) := Go.IntWalk.wrap64_in _ (by omega)
  have hw2 : wrap64 ((k : Int) + (p.size : Int)) = ((k + p.size : Nat) : Int) := by rw [Go.IntWalk.wrap64_in _ (by omega)]; push_cast; rfl
  by_cases h : p.size ≤ s.size - k
  · have hz : (p.size : Int) ≤ (s.size : Int) - (k : Int) := by omega
    have hz2 : (k : Int) ≤ ((k + p.size : Nat) : Int) := by omega
    have hz3 : ((k + p.size : Nat) : Int) ≤ (s.size : Int) := by omega
    have hit := at_hit s p k hk h
    rw [← hb] at hit
    clear hb
    go_enter Tryz.func23, Tryz.ntmps23
    go_wp2
    go_ret
    exact ⟨rfl, rfl⟩
  · have hz : ¬ (p.size : Int) ≤ (s.size : Int) - (k : Int) := by omega
    rw [at_miss s p k (by omega)] at hb
    subst hb
    go_enter Tryz.func23, Tryz.ntmps23
    go_wp2
    go_ret
    exact ⟨rfl, rfl⟩
set_option maxRecDepth 100000 in
theorem dWhite_is (c : Nat) (b : Bool) (hb : b = isW c) (w : World) :
    Calls Tryz.prog 24 #[.int .u8 (c : Int)] w fun e w' => e = .returned (.bool b) ∧ w = w' := by
  by_cases h1 : c = 32
  · subst h1; rw [hb]
    go_enter Tryz.func24, Tryz.ntmps24
    go_wp2
    go_ret
    exact ⟨rfl, rfl⟩
  by_cases h2 : c = 9
  · subst h2; rw [hb]
    go_enter Tryz.func24, Tryz.ntmps24
    go_wp2
    go_ret
    exact ⟨rfl, rfl⟩
  by_cases h3 : c = 13
  · subst h3; rw [hb]
    go_enter Tryz.func24, Tryz.ntmps24
    go_wp2
    go_ret
    exact ⟨rfl, rfl⟩
  by_cases h4 : c = 10
  · subst h4; rw [hb]
    go_enter Tryz.func24, Tryz.ntmps24
    go_wp2
    go_ret
    exact ⟨rfl, rfl⟩
  rw [show b = false by rw [hb]; simp [isW, h1, h2, h3, h4]]
  have z1 : ((c : Int) == 32) = false := by simp; omega
  have z2 : ((c : Int) == 9) = false := by simp; omega
  have z3 : ((c : Int) == 13) = false := by simp; omega
  have z4 : ((c : Int) == 10) = false := by simp; omega
  clear h1 h2 h3 h4 hb
  go_enter Tryz.func24, Tryz.ntmps24
  go_wp2
  go_ret
  exact ⟨rfl, rfl⟩


abbrev fltV (x : Nat) (c : Int) : Value := .agg #[.int .i64 (x : Int), .int .i64 c]
abbrev noF : Value := .agg #[.int .i64 0, .int .i64 0]
/-- what is wrong at a place of a tag: unended, or the byte there -/
def missV (s : ByteArray) (f k : Nat) : Value := if s.size ≤ k then fltV f 84 else fltV k 82
/-- a fault in a block of its own -/
def FB (w : World) (b : Nat) (x y : Value) : Prop := w.heap[b]? = some (.cells #[x, y] 27 (0, 0))
section
variable {w w' : World} {b : Nat} {x y : Value}
theorem FB.new (w : World) : FB (w.alloc (.cells #[.int .i64 0, .int .i64 0] 27)) w.heap.size (.int .i64 0) (.int .i64 0) := heap_at _ _ _ rfl
theorem FB.c0 (h : FB w b x y) : w.cell? ⟨b, 0, none⟩ = some x := by unfold FB at h; simp [World.cell?, h]
theorem FB.c1 (h : FB w b x y) : w.cell? ⟨b, 1, none⟩ = some y := by unfold FB at h; simp [World.cell?, h]
theorem FB.fz (h : FB w b x y) (j : Nat) : w.frozen? ⟨b, j, none⟩ = false := by unfold FB at h; simp [World.frozen?, h]
theorem FB.set0 (h : FB w b x y) (v : Value) : FB (w.setCell ⟨b, 0, none⟩ v) b v y := heap_setCell_at h 0 v
theorem FB.set1 (h : FB w b x y) (v : Value) : FB (w.setCell ⟨b, 1, none⟩ v) b x v := heap_setCell_at h 1 v
theorem FB.other (h : FB w b x y) {r : Nat} (hr : r ≠ b) (j : Nat) (v : Value) : FB (w.setCell ⟨r, j, none⟩ v) b x y := by
  unfold FB; rw [Below.heap_setCell _ _ _ _ (by exact Ne.symm hr)]; exact h
theorem FB.below {B : Nat} (h : FB w b x y) (hb : Below B w w') (hB : b < B) : FB w' b x y := by
  unfold FB; rw [hb.block b hB]; exact h
theorem FB.alloc (h : FB w b x y) (o : Obj) : FB (w.alloc o) b x y := by
  unfold FB at *; rw [Below.heap_alloc _ _ _ (Array.getElem?_eq_some_iff.1 h).1]; exact h
theorem FB.lt (h : FB w b x y) : b < w.heap.size := (Array.getElem?_eq_some_iff.1 h).1
end
set_option maxRecDepth 100000 in
theorem dMissing_any (s : ByteArray) (f k : Nat) (w : World) :
    Calls Tryz.prog 44 #[.string s, .int .i64 (f : Int), .int .i64 (k : Int)] w fun e w' => e = .returned (missV s f k) ∧ Below w.heap.size w w' := by
  by_cases h : s.size ≤ k
  · have hz : (s.size : Int) ≤ (k : Int) := by omega
    rw [show missV s f k = fltV f 84 from if_pos h]
    have hn : FB (w.alloc (.cells #[.int .i64 (f : Int), .int .i64 84] 27)) w.heap.size (.int .i64 (f : Int)) (.int .i64 84) := heap_at _ _ _ rfl
    have y0 := hn.c0
    have y1 := hn.c1
    clear hn
    go_enter Tryz.func44, Tryz.ntmps44
    go_wp2
    refine bodyPost_ret (v := fltV f 84) (by simp only [results, Tryz.results44]; simp [results, go_sem, y0, y1]) rfl ?_
    exact ⟨rfl, (Below.refl _ _).alloc (Nat.le_refl _) _⟩
  · have hz : ¬ (s.size : Int) ≤ (k : Int) := by omega
    rw [show missV s f k = fltV k 82 from if_neg h]
    have hn : FB (w.alloc (.cells #[.int .i64 (k : Int), .int .i64 82] 27)) w.heap.size (.int .i64 (k : Int)) (.int .i64 82) := heap_at _ _ _ rfl
    have y0 := hn.c0
    have y1 := hn.c1
    clear hn
    go_enter Tryz.func44, Tryz.ntmps44
    go_wp2
    refine bodyPost_ret (v := fltV k 82) (by simp only [results, Tryz.results44]; simp [results, go_sem, y0, y1]) rfl ?_
    exact ⟨rfl, (Below.refl _ _).alloc (Nat.le_refl _) _⟩
set_option maxRecDepth 100000 in
theorem dBlanks_any (s : ByteArray) (k m : Nat) (hm : k + wh (tl s k) = m) (hk : k ≤ s.size) (hs : s.size ≤ 65536) (w : World) :
    Calls Tryz.prog 45 #[.string s, .int .i64 (k : Int)] w fun e w' => e = .returned (.int .i64 (m : Int)) ∧ w = w' := by
  have HM := Lib.hid hm
  clear hm
  go_enter Tryz.func45, Tryz.ntmps45
  go_wp2
  go_loopg [1] s.size (fun kx v1 wr => ∃ (i : Nat), v1 = .int .i64 (i : Int) ∧ k ≤ i ∧ i ≤ s.size ∧ s.size - i ≤ kx ∧ Aside (wh (tl s k) = (i - k) + wh (tl s i)) ∧ Aside (w = wr))
  case atStart => exact ⟨k, rfl, Nat.le_refl _, hk, by omega, (by show _ = _; omega : Aside _), rfl⟩
  case round =>
    obtain ⟨i, rfl, hki, hi, hkx, HI, HW⟩ := hrel
    have pi : (0 : Int) ≤ (i : Int) := by omega
    by_cases hlt : i < s.size
    · have hltz : (i : Int) < (s.size : Int) := by omega
      have hh : hd (tl s i) = s[i].toNat := by rw [← hereB_hd, hereB_at hlt]
      cases hb : isW (hd (tl s i)) with
      | true =>
        have HN : Aside (wh (tl s k) = (i + 1 - k) + wh (tl s (i + 1))) := by
          have h1 : wh (tl s k) = (i - k) + wh (tl s i) := HI
          have h2 := wh_hd hb
          rw [tl_drop] at h2
          show _ = _
          omega
        have HWH := Lib.hid (fun W => dWhite_is (s[i].toNat) true (by rw [← hh]; exact hb.symm) W)
        clear hb HI hh
        go_wp2_with (go_at_call 24; refine (HWH.out _).mono ?_; rintro e w2 ⟨rfl, rfl⟩)
        go_roundg (s.size - (i + 1))
        case measure => omega
        case rel => exact ⟨i + 1, by go_num, by omega, hlt, Nat.le_refl _, HN, HW⟩
      | false =>
        have h0 := wh_no hb
        have HK : Hid (m = i) := Lib.hid (by have h1 : wh (tl s k) = (i - k) + wh (tl s i) := HI; have := HM.out; omega)
        have HWH := Lib.hid (fun W => dWhite_is (s[i].toNat) false (by rw [← hh]; exact hb.symm) W)
        clear hb HI hh h0
        go_wp2_with (go_at_call 24; refine (HWH.out _).mono ?_; rintro e w2 ⟨rfl, rfl⟩)
        go_ret
        exact ⟨by rw [HK.out]; rfl, HW⟩
    · obtain rfl : i = s.size := by omega
      have hltz : ¬ (s.size : Int) < (s.size : Int) := by omega
      have HK : Hid (m = s.size) := Lib.hid (by
        have h1 : wh (tl s k) = (s.size - k) + wh (tl s s.size) := HI
        rw [(tl_nil (Nat.le_refl _)).2 rfl] at h1
        simp only [wh] at h1
        have := HM.out
        omega)
      clear HI
      go_wp2
      go_ret
      exact ⟨by rw [HK.out]; rfl, HW⟩

/-- where a text begins from a place on, as the document tells it -/
def findV (s p : ByteArray) (k : Nat) : Int := if Lib.index (tl s k) p.data.toList = -1 then -1 else (k : Int) + Lib.index (tl s k) p.data.toList
theorem occ_tl (s p : ByteArray) (k j : Nat) : Lib.occAt (tl s k) p.data.toList j = Lib.hasPrefix (tl s (k + j)) p.data.toList := by
  unfold Lib.occAt Lib.hasPrefix; rw [tl_drop]
set_option maxRecDepth 100000 in
theorem dFind_any (s p : ByteArray) (k : Nat) (z : Int) (hz : findV s p k = z) (hk : k ≤ s.size) (hs : s.size ≤ 65536) (hp : p.size ≤ 65536) (hp1 : 1 ≤ p.size) (w : World) :
    Calls Tryz.prog 25 #[.string s, .int .i64 (k : Int), .string p] w fun e w' => e = .returned (.int .i64 z) ∧ w = w' := by
  have hw1 : wrap64 ((s.size : Int) - (p.size : Int)) = (s.size : Int) - (p.size : Int) := Go.IntWalk.wrap64_in _ (by omega)
  have HZ := Lib.hid hz
  have hpn : p.data.toList ≠ [] := by intro e; have := size_data p; rw [e] at this; simp at this; omega
  have HP := Lib.hid hpn
  clear hz hpn
  go_enter Tryz.func25, Tryz.ntmps25
  go_wp2
  go_loopg [7] s.size (fun kx v7 wr => ∃ (i : Nat), v7 = .int .i64 (i : Int) ∧ k ≤ i ∧ i ≤ s.size ∧ s.size - i ≤ kx ∧ Aside (Lib.NoOcc (tl s k) p.data.toList (i - k)) ∧ Aside (w = wr))
  case atStart => exact ⟨k, rfl, Nat.le_refl _, hk, by omega, (by rw [Nat.sub_self]; exact Lib.NoOcc.zero _ _ : Aside _), rfl⟩
  case round =>
    obtain ⟨i, rfl, hki, hi, hkx, HI, HW⟩ := hrel
    by_cases hlt : i + p.size ≤ s.size
    · have hltz : (i : Int) ≤ (s.size : Int) - (p.size : Int) := by omega
      have hat := occ_tl s p k (i - k)
      rw [show k + (i - k) = i by omega] at hat
      cases hb : Lib.hasPrefix (tl s i) p.data.toList with
      | true =>
        rw [hb] at hat
        have HA := Lib.hid (dAt_is s p i true hb.symm hi (by omega) (by omega))
        have HE : Hid (z = (i : Int)) := Lib.hid (by
          have h1 := Lib.index_hit (show Lib.NoOcc (tl s k) p.data.toList (i - k) from HI) (by rw [tl_length]; omega) hat
          rw [← HZ.out]
          unfold findV
          rw [h1, if_neg (by omega)]
          omega)
        clear hb hat HI
        go_wp2_with (go_at_call 23; refine (HA.out _).mono ?_; rintro e w2 ⟨rfl, rfl⟩)
        go_ret
        exact ⟨by rw [HE.out]; rfl, HW⟩
      | false =>
        rw [hb] at hat
        have HA := Lib.hid (dAt_is s p i false hb.symm hi (by omega) (by omega))
        have HN : Aside (Lib.NoOcc (tl s k) p.data.toList (i + 1 - k)) := by
          rw [show i + 1 - k = (i - k) + 1 by omega]
          exact Lib.NoOcc.succ (show Lib.NoOcc (tl s k) p.data.toList (i - k) from HI) hat
        clear hb hat HI
        go_wp2_with (go_at_call 23; refine (HA.out _).mono ?_; rintro e w2 ⟨rfl, rfl⟩)
        go_roundg (s.size - (i + 1))
        case measure => omega
        case rel => exact ⟨i + 1, by go_num, by omega, by omega, Nat.le_refl _, HN, HW⟩
    · have hltz : ¬ (i : Int) ≤ (s.size : Int) - (p.size : Int) := by omega
      have HE : Hid (z = -1) := Lib.hid (by
        have h1 := Lib.index_past HP.out (show Lib.NoOcc (tl s k) p.data.toList (i - k) from HI) (by rw [tl_length, size_data]; omega)
        rw [← HZ.out]
        unfold findV
        rw [h1, if_pos rfl])
      clear HI
      go_wp2
      go_ret
      exact ⟨by rw [HE.out]; rfl, HW⟩
/-- where a name ends -/
theorem fits_n0 {r : Int} {b : Bool} (h : fits b r = true) (h58 : r ≠ 58) : (if b = true then decide (isL r) else decide (isN r)) = true := by
  unfold fits at h
  rw [beq_eq_false_iff_ne.2 h58, Bool.false_or] at h
  exact h
set_option maxHeartbeats 2000000 in
set_option maxRecDepth 100000 in
theorem dName_any (s : ByteArray) (k m : Nat) (hm : k + nm (tl s k) = m) (hk : k ≤ s.size) (hs : s.size ≤ 65536) (w : World) :
    Calls Tryz.prog 43 #[.string s, .int .i64 (k : Int)] w fun e w' => e = .returned (.int .i64 (m : Int)) ∧ Below w.heap.size w w' := by
  have HM := Lib.hid hm
  clear hm
  go_enter Tryz.func43, Tryz.ntmps43
  go_wp2
  go_loopg [1, 6, 7] s.size (fun kx v1 _ _ wr => ∃ (i : Nat), v1 = .int .i64 (i : Int) ∧ k ≤ i ∧ i ≤ s.size ∧ s.size - i ≤ kx ∧ Aside (nm (tl s k) = (i - k) + nmW (decide (i = k)) (tl s i)) ∧ Aside (Below w.heap.size w wr))
  case atStart => exact ⟨k, rfl, Nat.le_refl _, hk, by omega, (by show _ = _; rw [Nat.sub_self, Nat.zero_add, decide_eq_true rfl]; rfl : Aside _), (Below.refl _ _ : Aside _)⟩
  case round =>
    obtain ⟨i, rfl, hki, hi, hkx, HI, HB⟩ := hrel
    have pi : (0 : Int) ≤ (i : Int) := by omega
    by_cases hlt : i < s.size
    · have hltz : (i : Int) < (s.size : Int) := by omega
      have HNX := Lib.hid (refNext_any s (i : Int) wr (by omega))
      rw [nxAt_nat] at HNX
      have hle := nx_le (tl s i)
      rw [tl_length] at hle
      change Hid (Calls Tryz.prog 42 #[.string s, .int .i64 (i : Int)] wr fun e w' => e = .returned (.tuple #[.int .i32 (nx (tl s i)).1, .int .i64 ((nx (tl s i)).2 : Int)]) ∧ Below wr.heap.size wr w') at HNX
      cases hb : fits (decide (i = k)) (nx (tl s i)).1 with
      | true =>
        have hpos := nx_pos hb
        rw [tl_length] at hpos
        have HN : Aside (nm (tl s k) = (i + (nx (tl s i)).2 - k) + nmW (decide (i + (nx (tl s i)).2 = k)) (tl s (i + (nx (tl s i)).2))) := by
          have h1 : nm (tl s k) = (i - k) + nmW (decide (i = k)) (tl s i) := HI
          have h2 := nmW_on hb
          rw [tl_drop] at h2
          rw [decide_eq_false (by omega : ¬ i + (nx (tl s i)).2 = k)]
          show _ = _
          omega
        generalize nx (tl s i) = X at *
        obtain ⟨r, n⟩ := X
        simp only at hle hpos hb HN HNX
        by_cases h58 : r = 58
        · subst h58
          clear hb HI
          go_wp2_with (go_at_call 42; refine HNX.out.mono ?_; rintro e w2 ⟨rfl, hb2⟩; have HB2 := Lib.hid (Below.trans HB (hb2.mono (Below.size HB))); clear hb2)
          go_roundg (s.size - (i + n))
          case measure => omega
          case rel => exact ⟨i + n, by go_num, by omega, by omega, Nat.le_refl _, HN, HB2.out⟩
        · have n58 : (r == 58) = false := beq_eq_false_iff_ne.2 h58
          have m58 : (r != 58) = true := bne_iff_ne.2 h58
          have hf := fits_n0 hb h58
          by_cases hl : isL r
          · have HL := Lib.hid (fun W => refLetter_is r true (decide_eq_true hl).symm W)
            clear hb HI h58 hf hl
            go_wp2_with (first
              | (go_at_call 42; refine HNX.out.mono ?_; rintro e w2 ⟨rfl, hb2⟩; have HB2 := Lib.hid (Below.trans HB (hb2.mono (Below.size HB))); clear hb2)
              | (go_at_call 64; refine (HL.out _).mono ?_; rintro e w3 ⟨rfl, rfl⟩))
            go_roundg (s.size - (i + n))
            case measure => omega
            case rel => exact ⟨i + n, by go_num, by omega, by omega, Nat.le_refl _, HN, HB2.out⟩
          · have HL := Lib.hid (fun W => refLetter_is r false (decide_eq_false hl).symm W)
            have hik : i ≠ k := by
              intro e
              rw [if_pos (decide_eq_true e)] at hf
              exact hl (of_decide_eq_true hf)
            have hkz : ((i : Int) == (k : Int)) = false := beq_eq_false_iff_ne.2 (by omega)
            rw [if_neg (by simp [hik])] at hf
            have HNR := Lib.hid (fun W => refName_is r true hf.symm W)
            clear hb HI h58 hf hl hik
            go_wp2_with (first
              | (go_at_call 42; refine HNX.out.mono ?_; rintro e w2 ⟨rfl, hb2⟩; have HB2 := Lib.hid (Below.trans HB (hb2.mono (Below.size HB))); clear hb2)
              | (go_at_call 64; refine (HL.out _).mono ?_; rintro e w3 ⟨rfl, rfl⟩)
              | (go_at_call 65; refine (HNR.out _).mono ?_; rintro e w4 ⟨rfl, rfl⟩))
            go_roundg (s.size - (i + n))
            case measure => omega
            case rel => exact ⟨i + n, by go_num, by omega, by omega, Nat.le_refl _, HN, HB2.out⟩
      | false =>
        have HK : Hid (m = i) := Lib.hid (by
          have h1 : nm (tl s k) = (i - k) + nmW (decide (i = k)) (tl s i) := HI
          rw [nmW_no hb] at h1
          have := HM.out
          omega)
        clear HI
        generalize nx (tl s i) = X at *
        obtain ⟨r, n⟩ := X
        simp only at hle hb HNX
        have h58 : r ≠ 58 := by rintro rfl; cases decide (i = k) <;> simp [fits] at hb
        have n58 : (r == 58) = false := beq_eq_false_iff_ne.2 h58
        have m58 : (r != 58) = true := bne_iff_ne.2 h58
        unfold fits at hb
        rw [n58, Bool.false_or] at hb
        by_cases hik : i = k
        · subst hik
          rw [if_pos (decide_eq_true rfl)] at hb
          have HL := Lib.hid (fun W => refLetter_is r false hb.symm W)
          clear hb h58
          go_wp2_with (first
            | (go_at_call 42; refine HNX.out.mono ?_; rintro e w2 ⟨rfl, hb2⟩; have HB2 := Lib.hid (Below.trans HB (hb2.mono (Below.size HB))); clear hb2)
            | (go_at_call 64; refine (HL.out _).mono ?_; rintro e w3 ⟨rfl, rfl⟩))
          go_ret
          exact ⟨by rw [HK.out]; rfl, HB2.out⟩
        · have hkz : ((i : Int) == (k : Int)) = false := beq_eq_false_iff_ne.2 (by omega)
          rw [if_neg (by simp [hik])] at hb
          have hl : ¬ isL r := fun h => of_decide_eq_false hb (isN_iff.2 (.inl h))
          have HL := Lib.hid (fun W => refLetter_is r false (decide_eq_false hl).symm W)
          have HNR := Lib.hid (fun W => refName_is r false hb.symm W)
          clear hb h58 hl hik
          go_wp2_with (first
            | (go_at_call 42; refine HNX.out.mono ?_; rintro e w2 ⟨rfl, hb2⟩; have HB2 := Lib.hid (Below.trans HB (hb2.mono (Below.size HB))); clear hb2)
            | (go_at_call 64; refine (HL.out _).mono ?_; rintro e w3 ⟨rfl, rfl⟩)
            | (go_at_call 65; refine (HNR.out _).mono ?_; rintro e w4 ⟨rfl, rfl⟩))
          go_ret
          exact ⟨by rw [HK.out]; rfl, HB2.out⟩
    · obtain rfl : i = s.size := by omega
      have hltz : ¬ (s.size : Int) < (s.size : Int) := by omega
      have HK : Hid (m = s.size) := Lib.hid (by
        have h1 : nm (tl s k) = (s.size - k) + nmW (decide (s.size = k)) (tl s s.size) := HI
        rw [(tl_nil (Nat.le_refl _)).2 rfl, nmW_no (by cases decide (s.size = k) <;> decide)] at h1
        have := HM.out
        omega)
      clear HI
      go_wp2
      go_ret
      exact ⟨by rw [HK.out]; rfl, HB⟩
end Go.Proofs.YtbokcihlbpeagaaGreatDoor
