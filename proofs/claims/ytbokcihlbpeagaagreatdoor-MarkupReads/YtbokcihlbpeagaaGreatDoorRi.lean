/-
  What is proved: contract of markup's name. Conditions: those in each statement.
-/
import Derived.Test.YtbokcihlbpeagaaGreatDoorRh
namespace Go.Proofs.YtbokcihlbpeagaaGreatDoor
open Go.RowKit

theorem nextQ (s : ByteArray) (k : Nat) (w : World) (hs : s.size ≤ 65536) (n : Nat) : Calls Tryz.prog 36 #[.string s, .int .i64 (k : Int)] (w.drewN n) fun e w' => e = .returned (.tuple #[.int .i32 (nx (tl s k)).1, .int .i64 ((nx (tl s k)).2 : Int)]) ∧ ∃ n, w' = w.drewN n := by
  refine (next_any s (k : Int) (w.drewN n) (by omega)).mono ?_
  rintro e w' ⟨rfl, rfl⟩
  rw [nxAt_nat]
  exact ⟨rfl, n, rfl⟩
def fnV (first : Bool) : FuncId := if first = true then 88 else 89
def nmW (first : Bool) (l : List UInt8) : Nat := if first = true then nm l else nmR l
theorem nmW_on {first : Bool} {l : List UInt8} (h : fits first (nx l).1 = true) : nmW first l = (nx l).2 + nmW false (l.drop (nx l).2) := by
  cases first
  · exact nmR_on h
  · exact nm_on h
theorem nmW_no {first : Bool} {l : List UInt8} (h : fits first (nx l).1 = false) : nmW first l = 0 := by
  cases first
  · exact nmR_no (by simp [h])
  · exact nm_no (by simp [h])
theorem fit_is (first : Bool) (r : Int) (b : Bool) (hr : r ≠ 58) (hb : fits first r = b) (w : World) : Calls Tryz.prog (fnV first) #[.int .i32 r] w fun e w' => e = .returned (.bool b) ∧ w = w' := by
  have hz : (r == 58) = false := by simp [hr]
  cases first
  · exact name_is r b (by rw [← hb]; simp [fits, hz]) w
  · exact letter_is r b (by rw [← hb]; simp [fits, hz]) w
theorem ext_part (s : ByteArray) (k i : Nat) : (s.extract k i) = ⟨((tl s k).take (i - k)).toArray⟩ := by
  apply str_of
  rw [Lib.extract_data]; rfl

set_option maxHeartbeats 2000000 in
set_option maxRecDepth 100000 in
theorem name_any (w : World) (p : Nat) (s : ByteArray) (k f : Nat) (m : Value) (h : Rd w p s k f m) (hk : k ≤ s.size) (hs : s.size ≤ 65536) :
    Calls Tryz.prog 72 #[.pointer (some ⟨p, 0, none⟩)] w (RdPost w p s k f m (nameO (tl s k)) strV) := by
  have c1 := h.c1
  have HR := Lib.hid h
  have HS := Lib.hid hs
  have fv0 : fnV false = 89 := rfl
  have fv1 : fnV true = 88 := rfl
  clear h hs
  go_enter Tryz.func72, Tryz.ntmps72
  go_wp2
  go_loopg [4, 5, 6, 11, 12, 13, 14, 15, 16, 17, 18, 19, 20, 21, 22, 23, 24, 25, 26, 27, 28, 29, 30, 31, 32, 33, 34, 35, 36, 37, 38] s.size (fun kx v4 _ _ _ _ _ _ _ _ _ _ _ _ _ _ _ _ _ _ _ _ _ _ _ _ _ _ _ _ _ _ wr => ∃ (i : Nat) (fst : Bool), k ≤ i ∧ i ≤ s.size ∧ s.size - i ≤ kx ∧ v4 = Value.func (Fn.func (fnV fst)) #[] #[] ∧ Aside (nm (tl s k) = (i - k) + nmW fst (tl s i)) ∧ Aside (Rd wr p s i f m) ∧ Aside (Mv p w wr))
  case atStart => exact ⟨k, true, Nat.le_refl _, hk, by omega, rfl, (by show _ = _; rw [Nat.sub_self, Nat.zero_add]; rfl : Aside _), HR.out, Mv.refl _ _⟩
  case round =>
    clear HR
    obtain ⟨i, fst, hki, hi, hkx, rfl, HI, HR, HM⟩ := hrel
    have HNX := Lib.hid (nextQ s i wr HS.out)
    have hle := nx_le (tl s i)
    rw [tl_length] at hle
    have c0 := HR.c0
    have c1 := HR.c1
    have z1 := HR.z 1
    cases hb : fits fst (nx (tl s i)).1 with
    | true =>
      have hpos := nx_pos hb
      rw [tl_length] at hpos
      have HN : Aside (nm (tl s k) = (i + (nx (tl s i)).2 - k) + nmW false (tl s (i + (nx (tl s i)).2))) := by
        have h1 : nm (tl s k) = (i - k) + nmW fst (tl s i) := HI
        have h2 := nmW_on hb
        rw [tl_drop] at h2
        show _ = _
        omega
      generalize nx (tl s i) = X at *
      obtain ⟨r, n⟩ := X
      have hw : Hid (wrap64 ((i : Int) + (n : Int)) = ((i + n : Nat) : Int)) := Lib.hid (by rw [Go.IntWalk.wrap64_in _ (by have := HS.out; omega)]; push_cast; rfl)
      by_cases h58 : r = 58
      · subst h58
        clear hb HI
        go_wp2_with fail
        go_quiet ((go_at_call 36; exact (HNX.out _)))
        go_wp2
        go_roundg (s.size - (i + n))
        case measure => omega
        case rel => exact ⟨i + n, false, by omega, by omega, Nat.le_refl _, rfl, HN, (Rd.drewN HR nq).at1 hw.out, (Mv.drewN HM nq).set 1 _⟩
      · have n58 : (r == 58) = false := by simp [h58]
        have m58 : (r != 58) = true := by simp [h58]
        have HF := Lib.hid (fun W => fit_is fst r true h58 hb W)
        clear hb HI h58
        cases fst
        all_goals
          go_wp2_with fail
          go_quiet ((go_at_call 36; exact (HNX.out _)))
          go_wp2_with (first
            | (go_at_call 88; refine (HF.out _).mono ?_; rintro e w2 ⟨rfl, rfl⟩)
            | (go_at_call 89; refine (HF.out _).mono ?_; rintro e w2 ⟨rfl, rfl⟩))
          go_roundg (s.size - (i + n))
        case measure => omega
        case rel => exact ⟨i + n, false, by omega, by omega, Nat.le_refl _, rfl, HN, (Rd.drewN HR nq).at1 hw.out, (Mv.drewN HM nq).set 1 _⟩
        case measure => omega
        case rel => exact ⟨i + n, false, by omega, by omega, Nat.le_refl _, rfl, HN, (Rd.drewN HR nq).at1 hw.out, (Mv.drewN HM nq).set 1 _⟩
    | false =>
      have hnm : nm (tl s k) = i - k := by
        have h1 : nm (tl s k) = (i - k) + nmW fst (tl s i) := HI
        rw [nmW_no hb] at h1
        omega
      have h58 : (nx (tl s i)).1 ≠ 58 := by intro h; rw [h] at hb; simp [fits] at hb
      have HF := Lib.hid (fun W => fit_is fst _ false h58 hb W)
      have n58 : ((nx (tl s i)).1 == 58) = false := by simp [h58]
      have m58 : ((nx (tl s i)).1 != 58) = true := by simp [h58]
      clear hb HI h58 hle
      generalize nx (tl s i) = X at *
      obtain ⟨r, n⟩ := X
      by_cases hik : i = k
      · subst hik
        have HO : Hid (nameO (tl s i) = wrongO (tl s i)) := Lib.hid (by unfold nameO; rw [if_pos (by omega)])
        obtain ⟨x, y, hxy⟩ : ∃ x y, failO i f (wrongO (α := Unit) (tl s i)) = some (x, y) := by unfold wrongO; split <;> exact ⟨_, _, rfl⟩
        have HW := Lib.hid (fun W (hW : Rd W p s i f m) => wrong_l W p s i f m hW hi HS.out (Lib.hid hxy))
        have HXY := Lib.hid hxy
        clear hnm hxy
        cases fst
        all_goals
          go_wp2_with fail
          go_quiet ((go_at_call 36; exact (HNX.out _)))
          go_wp2_with (first
            | (go_at_call 88; refine (HF.out _).mono ?_; rintro e w2 ⟨rfl, rfl⟩)
            | (go_at_call 89; refine (HF.out _).mono ?_; rintro e w2 ⟨rfl, rfl⟩)
            | (go_at_call 76; refine (HW.out _ (Rd.drewN HR nq)).mono ?_; rintro e w3 ⟨rfl, hm⟩))
          exact ⟨rfl, by rw [HO.out]; exact RdPost.fail (by rw [failO_wrong (β := Unit)]; exact HXY.out) ((Mv.drewN HM nq).trans hm)⟩
      · have HO : Hid (nameO (tl s k) = .ok ((tl s k).take (i - k)) (i - k)) := Lib.hid (by unfold nameO; rw [if_neg (by omega), hnm])
        have HE := Lib.hid (ext_part s k i)
        have HK : Hid (k + (i - k) = i) := Lib.hid (by omega)
        have e1 : ((i : Int) == (k : Int)) = false := beq_eq_false_iff_ne.2 (by omega)
        have e2 : (i == k) = false := beq_eq_false_iff_ne.2 hik
        have hki2 : (k : Int) ≤ (i : Int) := by omega
        have hi2 : (i : Int) ≤ (s.size : Int) := by omega
        clear hnm hik
        cases fst
        all_goals
          go_wp2_with fail
          go_quiet ((go_at_call 36; exact (HNX.out _)))
          go_wp2_with (first
            | (go_at_call 88; refine (HF.out _).mono ?_; rintro e w2 ⟨rfl, rfl⟩)
            | (go_at_call 89; refine (HF.out _).mono ?_; rintro e w2 ⟨rfl, rfl⟩))
          go_quiet (fail)
          go_wp2
          go_ret
          rw [HO.out]
          exact ⟨congrArg (fun x => Ending.returned (Value.string x)) HE.out, by rw [HK.out]; exact (Rd.drewN HR _).drewN _, (Mv.drewN HM _).drewN _⟩
end Go.Proofs.YtbokcihlbpeagaaGreatDoor
