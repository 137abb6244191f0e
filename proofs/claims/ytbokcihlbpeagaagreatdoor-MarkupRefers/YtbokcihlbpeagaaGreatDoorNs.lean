/-
  What is proved: contracts of the law's decimal and hex; the walk of the law MarkupRefers. Conditions: those in each statement.
-/
import Derived.Test.YtbokcihlbpeagaaGreatDoorNr
import Derived.Test.YtbokcihlbpeagaaGreatDoorNm
import Derived.Test.YtbokcihlbpeagaaGreatDoorVe
import Derived.Test.YtbokcihlbpeagaaGreatDoorKc
import Derived.Test.YtbokcihlbpeagaaGreatDoorNp
namespace Go.Proofs.YtbokcihlbpeagaaGreatDoor
open Go.RowKit

theorem u8_48 {d : Nat} (h : d < 10) : (((48 + d).toUInt8.toNat : Nat) : Int) = 48 + (d : Int) := by
  have : (48 + d).toUInt8.toNat = 48 + d := by simp; omega
  rw [this]; push_cast; rfl
/-- what the operations of decimal's last line yield -/
def dcF (n q r : Nat) (B8 : UInt8) (D : ByteArray) : Nat → Value → World → Prop
  | 0, v, _ | 3, v, _ => v = .int .u32 (n : Int)
  | 1, v, _ => v = .int .u32 (q : Int)
  | 2, v, _ => v = .string D
  | 4, v, _ => v = .int .u32 (r : Int)
  | 5, v, _ => v = .int .u8 (r : Int)
  | 6, v, _ => v = .int .u8 (48 + (r : Int))
  | 7, v, w => ∃ A m c, v = .slice A m c ∧ Hold w A m c [B8]
  | 8, v, _ => v = .string ⟨#[B8]⟩
  | _, v, _ => v = .string (D ++ ⟨#[B8]⟩)
theorem dcF_mono {n q r : Nat} {B8 : UInt8} {D : ByteArray} : ∀ i v w w', dcF n q r B8 D i v w → nR w w' → dcF n q r B8 D i v w' := by
  intro i v w w' h hR
  unfold dcF at *
  split at h
  all_goals first
    | exact h
    | (obtain ⟨A, m, c, e, hh⟩ := h; exact ⟨A, m, c, e, hh.below hR⟩)
theorem cat_str (D : ByteArray) (l m : List UInt8) (h : D.data.toList = l) : D ++ ⟨m.toArray⟩ = ⟨(l ++ m).toArray⟩ := by
  apply str_of
  simp [h]
set_option maxHeartbeats 2000000 in
set_option maxRecDepth 100000 in
theorem decimal_any : ∀ (m n : Nat), n ≤ m → n < 4294967296 → ∀ w : World, Calls Tryz.prog 15 #[.int .u32 (n : Int)] w fun e w' => e = .returned (.string ⟨(decL n).toArray⟩) ∧ Below w.heap.size w w' := by
  intro m
  induction m with
  | zero =>
    intro n hn hb w
    obtain rfl : n = 0 := by omega
    have hcv := conv_new [48] #[.int .u8 48] rfl w 1 rfl
    rw [decL_lo (by omega : (0 : Nat) < 10)]
    go_enter Tryz.func15, Tryz.ntmps15
    go_wp2
    go_ret
    exact ⟨rfl, (Below.refl _ _).alloc (Nat.le_refl _) _⟩
  | succ m ih =>
    intro n hn hb w
    by_cases h10 : n < 10
    · have hz : (n : Int) < 10 := by omega
      have hw1 : IntKind.u8.wrap (n : Int) = (n : Int) := Go.IntWalk.u8_in _ (by omega)
      have hw2 : IntKind.u8.wrap (48 + (n : Int)) = 48 + (n : Int) := Go.IntWalk.u8_in _ (by omega)
      have hcv := conv_new [(48 + n).toUInt8] #[.int .u8 (48 + (n : Int))] (by show #[Value.int .u8 (((48 + n).toUInt8.toNat : Nat) : Int)] = _; rw [u8_48 h10]) w 1 rfl
      rw [decL_lo h10]
      clear h10
      generalize (48 + n).toUInt8 = B8 at *
      go_enter Tryz.func15, Tryz.ntmps15
      go_wp2
      go_ret
      exact ⟨rfl, (Below.refl _ _).alloc (Nat.le_refl _) _⟩
    · have hz : ¬ (n : Int) < 10 := by omega
      have HIH := Lib.hid (ih (n / 10) (by omega) (by omega))
      rw [decL_hi h10]
      obtain ⟨D, hD⟩ : ∃ D : ByteArray, D = ⟨(decL (n / 10)).toArray⟩ := ⟨_, rfl⟩
      have hDl : D.data.toList = decL (n / 10) := by rw [hD]
      have hlen := dec_len 9 (n / 10) (by omega)
      have hsz : D.size ≤ 10 := by rw [← size_toList, hDl]; omega
      have hs1 : ¬ 9223372036854775807 < D.size + 1 := by omega
      rw [← hD] at HIH
      have hcat := cat_str D (decL (n / 10)) [(48 + n % 10).toUInt8] hDl
      rw [← hcat]
      have hb48 := u8_48 (d := n % 10) (by omega)
      have hmod : ((n % 10 : Nat) : Int) < 10 := by omega
      have hmod0 : (0 : Int) ≤ ((n % 10 : Nat) : Int) := by omega
      have ht1 : Int.tdiv (n : Int) 10 = ((n / 10 : Nat) : Int) := by rw [Int.tdiv_eq_ediv_of_nonneg (by omega)]; omega
      have ht2 : Int.tmod (n : Int) 10 = ((n % 10 : Nat) : Int) := by rw [Int.tmod_eq_emod_of_nonneg (by omega)]; omega
      have hw1 : IntKind.u8.wrap ((n % 10 : Nat) : Int) = ((n % 10 : Nat) : Int) := Go.IntWalk.u8_in _ (by omega)
      have hw2 : IntKind.u8.wrap (48 + ((n % 10 : Nat) : Int)) = 48 + ((n % 10 : Nat) : Int) := Go.IntWalk.u8_in _ (by omega)
      clear hD hDl hlen hcat ih
      have hwq : IntKind.u32.wrap ((n / 10 : Nat) : Int) = ((n / 10 : Nat) : Int) := Go.IntWalk.u32_in _ (by omega)
      have hwr : IntKind.u32.wrap ((n % 10 : Nat) : Int) = ((n % 10 : Nat) : Int) := Go.IntWalk.u32_in _ (by omega)
      generalize (48 + n % 10).toUInt8 = B8 at *
      generalize hqq : n / 10 = q at *
      generalize hrr : n % 10 = r at *
      clear hqq hrr
      go_enter Tryz.func15, Tryz.ntmps15
      go_wp2
      obtain ⟨V, hV⟩ : ∃ V, V = w.drew := ⟨_, rfl⟩
      have HBV := Lib.hid (show Below w.heap.size w V by rw [hV]; exact (Below.refl _ _).drew)
      refine wp_region_steps (dcF n q r B8 D) nR (by kernel_rfl) (by kernel_rfl) (fun w => Below.refl _ _) (fun _ _ _ h k => putR_trans h k) dcF_mono ?_ ?_
      · refine ⟨?_, ?_, ?_, ?_, ?_, ?_, ?_, ?_, ?_, ?_, ?_, trivial⟩
        · intro a W hR hoff hd
          left
          refine ⟨rfl, ?_⟩
          have e0 : a.tmps.getD 0 undef = .int .u32 (n : Int) := hoff.slot 0 (no_dst (by kernel_rfl))
          go_simp
          exact ⟨_, rfl, rfl, Below.refl _ _⟩
        · intro a W hR hoff hd
          left
          refine ⟨rfl, ?_⟩
          have e0 : a.tmps.getD 10 undef = .int .u32 (n : Int) := hd 0 _ rfl rfl
          go_simp
          exact ⟨_, rfl, rfl, Below.refl _ _⟩
        · intro a W hR hoff hd
          left
          refine ⟨rfl, ?_⟩
          have e0 : a.tmps.getD 11 undef = .int .u32 (q : Int) := hd 1 _ rfl rfl
          go_simp
          refine (HIH.out W).mono ?_
          rintro e W2 ⟨rfl, hb⟩
          exact ⟨_, rfl, rfl, hb⟩
        · intro a W hR hoff hd
          left
          refine ⟨rfl, ?_⟩
          have e0 : a.tmps.getD 0 undef = .int .u32 (n : Int) := hoff.slot 0 (no_dst (by kernel_rfl))
          go_simp
          exact ⟨_, rfl, rfl, Below.refl _ _⟩
        · intro a W hR hoff hd
          left
          refine ⟨rfl, ?_⟩
          have e0 : a.tmps.getD 13 undef = .int .u32 (n : Int) := hd 3 _ rfl rfl
          go_simp
          exact ⟨_, rfl, rfl, Below.refl _ _⟩
        · intro a W hR hoff hd
          left
          refine ⟨rfl, ?_⟩
          have e0 : a.tmps.getD 14 undef = .int .u32 (r : Int) := hd 4 _ rfl rfl
          go_simp
          exact ⟨_, rfl, rfl, Below.refl _ _⟩
        · intro a W hR hoff hd
          left
          refine ⟨rfl, ?_⟩
          have e0 : a.tmps.getD 15 undef = .int .u8 (r : Int) := hd 5 _ rfl rfl
          go_simp
          exact ⟨_, rfl, rfl, Below.refl _ _⟩
        · intro a W hR hoff hd
          left
          refine ⟨rfl, ?_⟩
          have e0 : a.tmps.getD 16 undef = .int .u8 (48 + (r : Int)) := hd 6 _ rfl rfl
          have e0' : a.tmps[16]?.getD undef = .int .u8 (48 + (r : Int)) := by simpa using e0
          go_simp
          exact ⟨_, rfl, ⟨some ⟨W.heap.size, 0, none⟩, 1, 1, rfl, by rw [← hb48]; exact Hold.new W [B8] 5 (0, 0) _ rfl⟩, (Below.refl _ _).alloc (Nat.le_refl _) _⟩
        · intro a W hR hoff hd
          left
          refine ⟨rfl, ?_⟩
          obtain ⟨A, m, c, e0, hh⟩ : ∃ A m c, a.tmps.getD 17 undef = .slice A m c ∧ Hold W A m c [B8] := hd 7 _ rfl rfl
          have cv := conv_hold hh
          clear hh
          go_simp
          exact ⟨_, rfl, rfl, Below.refl _ _⟩
        · intro a W hR hoff hd
          left
          refine ⟨rfl, ?_⟩
          have e0 : a.tmps.getD 12 undef = .string D := hd 2 _ rfl rfl
          have e1 : a.tmps.getD 18 undef = .string ⟨#[B8]⟩ := hd 8 _ rfl rfl
          have hs2 : (⟨#[B8]⟩ : ByteArray).size = 1 := rfl
          go_simp
          exact ⟨_, rfl, rfl, Below.refl _ _⟩
        · intro a W hR hoff hd
          left
          refine ⟨rfl, ?_⟩
          have e0 : a.tmps.getD 19 undef = .string (D ++ ⟨#[B8]⟩) := hd 9 _ rfl rfl
          go_simp
          exact ⟨_, rfl, rfl, Below.refl _ _⟩
      · intro a W hR hoff hd
        rename_i hK
        have e2 : a.tmps.getD 2 undef = .string (D ++ ⟨#[B8]⟩) := hd 10 _ rfl
        rw [← hV] at hR
        have HBN := Lib.hid (HBV.out.trans (Below.mono hR HBV.out.size))
        obtain ⟨ys, hys, ha⟩ := off_form hoff (mask := [false, false, true, false, false, false, false, false, false, false, true, true, true, true, true, true, true, true, true, true]) (by kernel_rfl)
        rw [hys] at e2
        clear hd hoff hys
        subst ha
        simp only [fillFrom, e2, Nat.zero_add, Nat.reduceAdd]
        refine hK _ _ ?_
        go_wp2
        go_ret
        exact ⟨rfl, HBN.out⟩
theorem hex_list : ∀ n < 16, ((⟨#[48, 49, 50, 51, 52, 53, 54, 55, 56, 57, 97, 66, 99, 68, 101, 70]⟩ : ByteArray).data.toList.drop n).take 1 = [hexD n] := by decide +kernel
theorem hex_ext {n : Nat} (h : n < 16) : (⟨#[48, 49, 50, 51, 52, 53, 54, 55, 56, 57, 97, 66, 99, 68, 101, 70]⟩ : ByteArray).extract n (n + 1) = ⟨#[hexD n]⟩ := by
  refine (str_of ?_ : _ = (⟨[hexD n].toArray⟩ : ByteArray))
  rw [Lib.extract_data, Nat.add_sub_cancel_left]
  exact hex_list n h
set_option maxHeartbeats 2000000 in
set_option maxRecDepth 100000 in
theorem hex_any : ∀ (m n : Nat), n ≤ m → n < 4294967296 → ∀ w : World, Calls Tryz.prog 16 #[.int .u32 (n : Int)] w fun e w' => e = .returned (.string ⟨(hexL n).toArray⟩) ∧ Below w.heap.size w w' := by
  intro m
  induction m with
  | zero =>
    intro n hn hb w
    obtain rfl : n = 0 := by omega
    rw [hexL_lo (by omega : (0 : Nat) < 16)]
    go_enter Tryz.func16, Tryz.ntmps16
    go_wp2
    go_ret
    exact ⟨rfl, Below.refl _ _⟩
  | succ m ih =>
    intro n hn hb w
    by_cases h16 : n < 16
    · have hz : (n : Int) < 16 := by omega
      have hw1 : IntKind.u32.wrap ((n : Int) + 1) = ((n + 1 : Nat) : Int) := by rw [Go.IntWalk.u32_in _ (by omega)]; push_cast; rfl
      have q0 : (0 : Int) ≤ (n : Int) := by omega
      have q1 : (n : Int) ≤ ((n + 1 : Nat) : Int) := by omega
      have q2 : ((n + 1 : Nat) : Int) ≤ 16 := by omega
      have hx := hex_ext h16
      rw [hexL_lo h16]
      clear ih
      go_enter Tryz.func16, Tryz.ntmps16
      go_wp2
      go_ret
      exact ⟨rfl, Below.refl _ _⟩
    · have hz : ¬ (n : Int) < 16 := by omega
      have H1 := Lib.hid (ih (n / 16) (by omega) (by omega))
      have H2 := Lib.hid (ih (n % 16) (by omega) (by omega))
      rw [hexL_hi h16]
      obtain ⟨D, hD⟩ : ∃ D : ByteArray, D = ⟨(hexL (n / 16)).toArray⟩ := ⟨_, rfl⟩
      have hDl : D.data.toList = hexL (n / 16) := by rw [hD]
      have hlen := hex_len 7 (n / 16) (by omega)
      have hsz : D.size ≤ 10 := by rw [← size_toList, hDl]; omega
      obtain ⟨E, hE⟩ : ∃ E : ByteArray, E = ⟨(hexL (n % 16)).toArray⟩ := ⟨_, rfl⟩
      have hEl : E.data.toList = hexL (n % 16) := by rw [hE]
      have hlen2 := hex_len 7 (n % 16) (by omega)
      have hsz2 : E.size ≤ 10 := by rw [← size_toList, hEl]; omega
      have hs1 : ¬ 9223372036854775807 < D.size + E.size := by omega
      have hcat := cat_str D (hexL (n / 16)) (hexL (n % 16)) hDl
      rw [← hE] at hcat
      rw [← hcat]
      rw [← hD] at H1
      rw [← hE] at H2
      have ht1 : Int.tdiv (n : Int) 16 = ((n / 16 : Nat) : Int) := by rw [Int.tdiv_eq_ediv_of_nonneg (by omega)]; omega
      have ht2 : Int.tmod (n : Int) 16 = ((n % 16 : Nat) : Int) := by rw [Int.tmod_eq_emod_of_nonneg (by omega)]; omega
      clear hD hDl hlen hcat ih hE hEl hlen2
      have hwq : IntKind.u32.wrap ((n / 16 : Nat) : Int) = ((n / 16 : Nat) : Int) := Go.IntWalk.u32_in _ (by omega)
      have hwr : IntKind.u32.wrap ((n % 16 : Nat) : Int) = ((n % 16 : Nat) : Int) := Go.IntWalk.u32_in _ (by omega)
      generalize hqq : n / 16 = q at *
      generalize hrr : n % 16 = r at *
      clear hqq hrr
      go_enter Tryz.func16, Tryz.ntmps16
      go_wp2_with (first
        | (go_at_call 16; ((with_reducible refine (H1.out _).mono ?_); rintro e w2 ⟨rfl, hb2⟩; have HB2 := Lib.hid hb2; clear hb2))
        | (go_at_call 16; ((with_reducible refine (H2.out _).mono ?_); rintro e w3 ⟨rfl, hb3⟩; have HB3 := Lib.hid (HB2.out.trans (hb3.mono HB2.out.size)); clear hb3)))
      go_ret
      exact ⟨rfl, HB3.out⟩
theorem docA_str {X : ByteArray} {k n : Nat} (h : X.data.toList = digL k n) : ((⟨#[97, 38, 35]⟩ : ByteArray) ++ X ++ ⟨#[59]⟩).data.toList = docA k n := by
  simp [h, docA]
theorem docB_str {H : ByteArray} {n : Nat} (h : H.data.toList = hexL n) : ((⟨#[60, 97, 32, 98, 61, 39, 38, 35, 120]⟩ : ByteArray) ++ H ++ ⟨#[59, 39, 47, 62]⟩).data.toList = docB n := by
  simp [h, docB, tagQ]
theorem dig_step {X : ByteArray} {k n : Nat} (h : X.data.toList = digL k n) : ((⟨#[48]⟩ : ByteArray) ++ X).data.toList = digL (k + 1) n := by
  simp [h, digL_succ]
theorem dig_len (k n : Nat) (h : n < 4294967296) : (digL k n).length ≤ k + 10 := by
  unfold digL
  rw [List.length_append, List.length_replicate]
  have := dec_len 9 n (by omega)
  omega
set_option maxHeartbeats 4000000 in
set_option maxRecDepth 100000 in
theorem refers_no0 (w : World) (n m : Nat) (hG : Glob w) (hn : n < 4294967296) (hm : m < 256) (hc : ¬ isC (n : Int)) (hbig : n ≤ 1114111) :
    Calls Tryz.prog 5 #[.int .u32 (n : Int), .int .u8 (m : Int)] w fun e w' => e = .returned (.bool true) ∧ Below w.heap.size w w' := by
  have HG := Lib.hid hG
  have HAW := Lib.hid (fun W (hW : Glob W) => awake_any W hW)
  have HD := Lib.hid (decimal_any n n (Nat.le_refl _) hn)
  obtain ⟨D0, hD0⟩ : ∃ D0 : ByteArray, D0 = ⟨(decL n).toArray⟩ := ⟨_, rfl⟩
  have HDL : Hid (D0.data.toList = digL 0 n) := Lib.hid (by rw [hD0]; rfl)
  rw [← hD0] at HD
  have HX := Lib.hid (hex_any n n (Nat.le_refl _) hn)
  obtain ⟨H, hH⟩ : ∃ H : ByteArray, H = ⟨(hexL n).toArray⟩ := ⟨_, rfl⟩
  have hHl : H.data.toList = hexL n := by rw [hH]
  rw [← hH] at HX
  have hH8 : H.size ≤ 8 := by rw [← size_toList, hHl]; exact hex_len 7 n (by simpa using hn)
  have hh1 : ¬ 9223372036854775807 < 9 + H.size := by omega
  have hh2 : ¬ 9223372036854775807 < 9 + H.size + 4 := by omega
  have HM2 := Lib.hid (fun W (hW : Glob W) => marks_any W ((⟨#[60, 97, 32, 98, 61, 39, 38, 35, 120]⟩ : ByteArray) ++ H ++ ⟨#[59, 39, 47, 62]⟩) hW)
  rw [docB_str hHl, resB_no hn hc] at HM2
  obtain ⟨r, hr⟩ : ∃ r, r = m % 6 := ⟨_, rfl⟩
  have ht : Int.tmod (m : Int) 6 = (r : Int) := by rw [Int.tmod_eq_emod_of_nonneg (by omega), hr]; omega
  have hr6 : r < 6 := by omega
  have HN := Lib.hid hn
  have hz : (n : Int) ≤ 1114111 := by omega
  have hw32 : IntKind.i32.wrap (n : Int) = (n : Int) := Go.IntWalk.i32_in _ (by omega)
  have HCH := Lib.hid (fun W => refChar_is (n : Int) false (decide_eq_false hc).symm W)
  have HCC := Lib.hid hc
  clear hG hD0 hH hHl hr hc hbig
  go_enter Tryz.func5, Tryz.ntmps5
  go_wp2_with (go_at_call 15; refine (HD.out _).mono ?_; rintro e w1 ⟨rfl, hb1⟩; have HB1 := Lib.hid hb1; clear hb1)
  go_loopg [5, 6] r (fun kx v5 v6 wr => ∃ (i : Nat) (X : ByteArray), v5 = .string X ∧ v6 = .int .i64 (i : Int) ∧ i ≤ r ∧ r - i ≤ kx ∧ Aside (X.data.toList = digL i n) ∧ Aside (w1 = wr))
  case atStart => exact ⟨0, D0, rfl, rfl, Nat.zero_le _, by omega, HDL.out, rfl⟩
  case round =>
    obtain ⟨i, X, rfl, rfl, hi, hkx, HXD, HW⟩ := hrel
    have hWw : w1 = wr := HW
    subst hWw
    clear HW
    have hX : X.data.toList = digL i n := HXD
    have hXs : X.size ≤ 16 := by rw [← size_toList, hX]; have := dig_len i n HN.out; omega
    by_cases hlt : i < r
    · have hltz : (i : Int) < (r : Int) := by omega
      have hx1 : ¬ 9223372036854775807 < 1 + X.size := by omega
      have HN2 := Lib.hid (dig_step hX)
      clear hX HXD
      go_wp2
      go_roundg (r - (i + 1))
      case measure => omega
      case rel => exact ⟨i + 1, _, rfl, by go_num, by omega, Nat.le_refl _, HN2.out, rfl⟩
    · obtain rfl : i = r := by omega
      have hltz : ¬ (i : Int) < (i : Int) := by omega
      have hx1 : ¬ 9223372036854775807 < 3 + X.size := by omega
      have hx2 : ¬ 9223372036854775807 < 3 + X.size + 1 := by omega
      have hXL : X.size = (digL i n).length := by rw [← size_toList, hX]
      have HM1 := Lib.hid (fun W (hW : Glob W) => marks_any W ((⟨#[97, 38, 35]⟩ : ByteArray) ++ X ++ ⟨#[59]⟩) hW)
      rw [docA_str hX, resA_no (by have := dig_len i n HN.out; omega) (.inr HCC.out)] at HM1
      clear hX HXD hXL
      go_wp2_with (first
        | (go_at_call 6; ((with_reducible refine (HM1.out _ (HG.out.below HB1.out HG.out.size)).mono ?_); rintro e w2 ⟨hb2, rfl⟩; have HB2 := Lib.hid (HB1.out.trans (hb2.mono HB1.out.size));  clear hb2))
        | (go_at_call 16; refine (HX.out _).mono ?_; rintro e w3 ⟨rfl, hb3⟩; have HB3 := Lib.hid (HB2.out.trans (hb3.mono HB2.out.size)); clear hb3)
        | (go_at_call 6; ((with_reducible refine (HM2.out _ (HG.out.below HB3.out HG.out.size)).mono ?_); rintro e w4 ⟨hb4, rfl⟩; have HB4 := Lib.hid (HB3.out.trans (hb4.mono HB3.out.size)); clear hb4))
        | (go_at_call 8; refine (HAW.out _ (HG.out.below HB4.out HG.out.size)).mono ?_; rintro e w5 ⟨rfl, hb5⟩; have HB5 := Lib.hid (HB4.out.trans (hb5.mono HB4.out.size)); clear hb5)
        | (go_at_call 17; refine (HCH.out _).mono ?_; rintro e w6 ⟨rfl, rfl⟩))
      go_ret
      exact ⟨rfl, HB5.out⟩
set_option maxHeartbeats 4000000 in
set_option maxRecDepth 100000 in
theorem refers_no1 (w : World) (n m : Nat) (hG : Glob w) (hn : n < 4294967296) (hm : m < 256) (hc : ¬ isC (n : Int)) (hbig : ¬ n ≤ 1114111) :
    Calls Tryz.prog 5 #[.int .u32 (n : Int), .int .u8 (m : Int)] w fun e w' => e = .returned (.bool true) ∧ Below w.heap.size w w' := by
  have HG := Lib.hid hG
  have HAW := Lib.hid (fun W (hW : Glob W) => awake_any W hW)
  have HD := Lib.hid (decimal_any n n (Nat.le_refl _) hn)
  obtain ⟨D0, hD0⟩ : ∃ D0 : ByteArray, D0 = ⟨(decL n).toArray⟩ := ⟨_, rfl⟩
  have HDL : Hid (D0.data.toList = digL 0 n) := Lib.hid (by rw [hD0]; rfl)
  rw [← hD0] at HD
  have HX := Lib.hid (hex_any n n (Nat.le_refl _) hn)
  obtain ⟨H, hH⟩ : ∃ H : ByteArray, H = ⟨(hexL n).toArray⟩ := ⟨_, rfl⟩
  have hHl : H.data.toList = hexL n := by rw [hH]
  rw [← hH] at HX
  have hH8 : H.size ≤ 8 := by rw [← size_toList, hHl]; exact hex_len 7 n (by simpa using hn)
  have hh1 : ¬ 9223372036854775807 < 9 + H.size := by omega
  have hh2 : ¬ 9223372036854775807 < 9 + H.size + 4 := by omega
  have HM2 := Lib.hid (fun W (hW : Glob W) => marks_any W ((⟨#[60, 97, 32, 98, 61, 39, 38, 35, 120]⟩ : ByteArray) ++ H ++ ⟨#[59, 39, 47, 62]⟩) hW)
  rw [docB_str hHl, resB_no hn hc] at HM2
  obtain ⟨r, hr⟩ : ∃ r, r = m % 6 := ⟨_, rfl⟩
  have ht : Int.tmod (m : Int) 6 = (r : Int) := by rw [Int.tmod_eq_emod_of_nonneg (by omega), hr]; omega
  have hr6 : r < 6 := by omega
  have HN := Lib.hid hn
  have hz : ¬ (n : Int) ≤ 1114111 := by omega
  have HCC := Lib.hid hc
  clear hG hD0 hH hHl hr hc hbig
  go_enter Tryz.func5, Tryz.ntmps5
  go_wp2_with (go_at_call 15; refine (HD.out _).mono ?_; rintro e w1 ⟨rfl, hb1⟩; have HB1 := Lib.hid hb1; clear hb1)
  go_loopg [5, 6] r (fun kx v5 v6 wr => ∃ (i : Nat) (X : ByteArray), v5 = .string X ∧ v6 = .int .i64 (i : Int) ∧ i ≤ r ∧ r - i ≤ kx ∧ Aside (X.data.toList = digL i n) ∧ Aside (w1 = wr))
  case atStart => exact ⟨0, D0, rfl, rfl, Nat.zero_le _, by omega, HDL.out, rfl⟩
  case round =>
    obtain ⟨i, X, rfl, rfl, hi, hkx, HXD, HW⟩ := hrel
    have hWw : w1 = wr := HW
    subst hWw
    clear HW
    have hX : X.data.toList = digL i n := HXD
    have hXs : X.size ≤ 16 := by rw [← size_toList, hX]; have := dig_len i n HN.out; omega
    by_cases hlt : i < r
    · have hltz : (i : Int) < (r : Int) := by omega
      have hx1 : ¬ 9223372036854775807 < 1 + X.size := by omega
      have HN2 := Lib.hid (dig_step hX)
      clear hX HXD
      go_wp2
      go_roundg (r - (i + 1))
      case measure => omega
      case rel => exact ⟨i + 1, _, rfl, by go_num, by omega, Nat.le_refl _, HN2.out, rfl⟩
    · obtain rfl : i = r := by omega
      have hltz : ¬ (i : Int) < (i : Int) := by omega
      have hx1 : ¬ 9223372036854775807 < 3 + X.size := by omega
      have hx2 : ¬ 9223372036854775807 < 3 + X.size + 1 := by omega
      have hXL : X.size = (digL i n).length := by rw [← size_toList, hX]
      have HM1 := Lib.hid (fun W (hW : Glob W) => marks_any W ((⟨#[97, 38, 35]⟩ : ByteArray) ++ X ++ ⟨#[59]⟩) hW)
      rw [docA_str hX, resA_no (by have := dig_len i n HN.out; omega) (.inr HCC.out)] at HM1
      clear hX HXD hXL
      go_wp2_with (first
        | (go_at_call 6; ((with_reducible refine (HM1.out _ (HG.out.below HB1.out HG.out.size)).mono ?_); rintro e w2 ⟨hb2, rfl⟩; have HB2 := Lib.hid (HB1.out.trans (hb2.mono HB1.out.size));  clear hb2))
        | (go_at_call 16; refine (HX.out _).mono ?_; rintro e w3 ⟨rfl, hb3⟩; have HB3 := Lib.hid (HB2.out.trans (hb3.mono HB2.out.size)); clear hb3)
        | (go_at_call 6; ((with_reducible refine (HM2.out _ (HG.out.below HB3.out HG.out.size)).mono ?_); rintro e w4 ⟨hb4, rfl⟩; have HB4 := Lib.hid (HB3.out.trans (hb4.mono HB3.out.size)); clear hb4))
        | (go_at_call 8; refine (HAW.out _ (HG.out.below HB4.out HG.out.size)).mono ?_; rintro e w5 ⟨rfl, hb5⟩; have HB5 := Lib.hid (HB4.out.trans (hb5.mono HB4.out.size)); clear hb5)
        | (go_at_call 17; refine (HCH.out _).mono ?_; rintro e w6 ⟨rfl, rfl⟩))
      go_ret
      exact ⟨rfl, HB5.out⟩
set_option maxHeartbeats 4000000 in
set_option maxRecDepth 100000 in
theorem refers_long (w : World) (n m : Nat) (hG : Glob w) (hn : n < 4294967296) (hm : m < 256) (hc : isC (n : Int)) (h8 : 8 < (digL (m % 6) n).length) :
    Calls Tryz.prog 5 #[.int .u32 (n : Int), .int .u8 (m : Int)] w fun e w' => e = .returned (.bool true) ∧ Below w.heap.size w w' := by
  have HG := Lib.hid hG
  have HAW := Lib.hid (fun W (hW : Glob W) => awake_any W hW)
  have HD := Lib.hid (decimal_any n n (Nat.le_refl _) hn)
  obtain ⟨D0, hD0⟩ : ∃ D0 : ByteArray, D0 = ⟨(decL n).toArray⟩ := ⟨_, rfl⟩
  have HDL : Hid (D0.data.toList = digL 0 n) := Lib.hid (by rw [hD0]; rfl)
  rw [← hD0] at HD
  have HX := Lib.hid (hex_any n n (Nat.le_refl _) hn)
  obtain ⟨H, hH⟩ : ∃ H : ByteArray, H = ⟨(hexL n).toArray⟩ := ⟨_, rfl⟩
  have hHl : H.data.toList = hexL n := by rw [hH]
  rw [← hH] at HX
  have hH8 : H.size ≤ 8 := by rw [← size_toList, hHl]; exact hex_len 7 n (by simpa using hn)
  have hh1 : ¬ 9223372036854775807 < 9 + H.size := by omega
  have hh2 : ¬ 9223372036854775807 < 9 + H.size + 4 := by omega
  have HM2 := Lib.hid (fun W (hW : Glob W) => marks_any W ((⟨#[60, 97, 32, 98, 61, 39, 38, 35, 120]⟩ : ByteArray) ++ H ++ ⟨#[59, 39, 47, 62]⟩) hW)
  rw [docB_str hHl, resB_ok hn hc] at HM2
  obtain ⟨r, hr⟩ : ∃ r, r = m % 6 := ⟨_, rfl⟩
  have ht : Int.tmod (m : Int) 6 = (r : Int) := by rw [Int.tmod_eq_emod_of_nonneg (by omega), hr]; omega
  have hr6 : r < 6 := by omega
  have HN := Lib.hid hn
  have hz : (n : Int) ≤ 1114111 := by have := isC_iff.1 hc; omega
  have hw32 : IntKind.i32.wrap (n : Int) = (n : Int) := Go.IntWalk.i32_in _ (by have := isC_iff.1 hc; omega)
  have HCH := Lib.hid (fun W => refChar_is (n : Int) true (decide_eq_true hc).symm W)
  have HCC := Lib.hid hc
  rw [← hr] at h8
  have H8 := Lib.hid h8
  clear h8
  clear hG hD0 hH hHl hr hc
  go_enter Tryz.func5, Tryz.ntmps5
  go_wp2_with (go_at_call 15; refine (HD.out _).mono ?_; rintro e w1 ⟨rfl, hb1⟩; have HB1 := Lib.hid hb1; clear hb1)
  go_loopg [5, 6] r (fun kx v5 v6 wr => ∃ (i : Nat) (X : ByteArray), v5 = .string X ∧ v6 = .int .i64 (i : Int) ∧ i ≤ r ∧ r - i ≤ kx ∧ Aside (X.data.toList = digL i n) ∧ Aside (w1 = wr))
  case atStart => exact ⟨0, D0, rfl, rfl, Nat.zero_le _, by omega, HDL.out, rfl⟩
  case round =>
    obtain ⟨i, X, rfl, rfl, hi, hkx, HXD, HW⟩ := hrel
    have hWw : w1 = wr := HW
    subst hWw
    clear HW
    have hX : X.data.toList = digL i n := HXD
    have hXs : X.size ≤ 16 := by rw [← size_toList, hX]; have := dig_len i n HN.out; omega
    by_cases hlt : i < r
    · have hltz : (i : Int) < (r : Int) := by omega
      have hx1 : ¬ 9223372036854775807 < 1 + X.size := by omega
      have HN2 := Lib.hid (dig_step hX)
      clear hX HXD
      go_wp2
      go_roundg (r - (i + 1))
      case measure => omega
      case rel => exact ⟨i + 1, _, rfl, by go_num, by omega, Nat.le_refl _, HN2.out, rfl⟩
    · obtain rfl : i = r := by omega
      have hltz : ¬ (i : Int) < (i : Int) := by omega
      have hx1 : ¬ 9223372036854775807 < 3 + X.size := by omega
      have hx2 : ¬ 9223372036854775807 < 3 + X.size + 1 := by omega
      have hXL : X.size = (digL i n).length := by rw [← size_toList, hX]
      have HM1 := Lib.hid (fun W (hW : Glob W) => marks_any W ((⟨#[97, 38, 35]⟩ : ByteArray) ++ X ++ ⟨#[59]⟩) hW)
      have h8z : (8 : Int) < (X.size : Int) := by have := H8.out; omega
      rw [docA_str hX, resA_no (by have := dig_len i n HN.out; omega) (.inl H8.out)] at HM1
      clear hX HXD hXL
      go_wp2_with (first
        | (go_at_call 6; ((with_reducible refine (HM1.out _ (HG.out.below HB1.out HG.out.size)).mono ?_); rintro e w2 ⟨hb2, rfl⟩; have HB2 := Lib.hid (HB1.out.trans (hb2.mono HB1.out.size));  clear hb2))
        | (go_at_call 16; refine (HX.out _).mono ?_; rintro e w3 ⟨rfl, hb3⟩; have HB3 := Lib.hid (HB2.out.trans (hb3.mono HB2.out.size)); clear hb3)
        | (go_at_call 6; ((with_reducible refine (HM2.out _ (HG.out.below HB3.out HG.out.size)).mono ?_); rintro e w4 ⟨hb4, mv2, B2, zs2, hz2, rfl, -, hmr2⟩; have HB4 := Lib.hid (HB3.out.trans (hb4.mono HB3.out.size)); clear hb4))
        | (go_at_call 8; refine (HAW.out _ (HG.out.below HB4.out HG.out.size)).mono ?_; rintro e w5 ⟨rfl, hb5⟩; have HB5 := Lib.hid (HB4.out.trans (hb5.mono HB4.out.size)); clear hb5)
        | (go_at_call 17; refine (HCH.out _).mono ?_; rintro e w6 ⟨rfl, rfl⟩))
      go_ret
      exact ⟨rfl, HB5.out⟩
set_option maxHeartbeats 4000000 in
set_option maxRecDepth 100000 in
theorem refers_ok (w : World) (n m : Nat) (hG : Glob w) (hn : n < 4294967296) (hm : m < 256) (hc : isC (n : Int)) (h8 : ¬ 8 < (digL (m % 6) n).length) :
    Calls Tryz.prog 5 #[.int .u32 (n : Int), .int .u8 (m : Int)] w fun e w' => e = .returned (.bool true) ∧ Below w.heap.size w w' := by
  have HG := Lib.hid hG
  have HAW := Lib.hid (fun W (hW : Glob W) => awake_any W hW)
  have HD := Lib.hid (decimal_any n n (Nat.le_refl _) hn)
  obtain ⟨D0, hD0⟩ : ∃ D0 : ByteArray, D0 = ⟨(decL n).toArray⟩ := ⟨_, rfl⟩
  have HDL : Hid (D0.data.toList = digL 0 n) := Lib.hid (by rw [hD0]; rfl)
  rw [← hD0] at HD
  have HX := Lib.hid (hex_any n n (Nat.le_refl _) hn)
  obtain ⟨H, hH⟩ : ∃ H : ByteArray, H = ⟨(hexL n).toArray⟩ := ⟨_, rfl⟩
  have hHl : H.data.toList = hexL n := by rw [hH]
  rw [← hH] at HX
  have hH8 : H.size ≤ 8 := by rw [← size_toList, hHl]; exact hex_len 7 n (by simpa using hn)
  have hh1 : ¬ 9223372036854775807 < 9 + H.size := by omega
  have hh2 : ¬ 9223372036854775807 < 9 + H.size + 4 := by omega
  have HM2 := Lib.hid (fun W (hW : Glob W) => marks_any W ((⟨#[60, 97, 32, 98, 61, 39, 38, 35, 120]⟩ : ByteArray) ++ H ++ ⟨#[59, 39, 47, 62]⟩) hW)
  rw [docB_str hHl, resB_ok hn hc] at HM2
  obtain ⟨r, hr⟩ : ∃ r, r = m % 6 := ⟨_, rfl⟩
  have ht : Int.tmod (m : Int) 6 = (r : Int) := by rw [Int.tmod_eq_emod_of_nonneg (by omega), hr]; omega
  have hr6 : r < 6 := by omega
  have HN := Lib.hid hn
  have hz : (n : Int) ≤ 1114111 := by have := isC_iff.1 hc; omega
  have hw32 : IntKind.i32.wrap (n : Int) = (n : Int) := Go.IntWalk.i32_in _ (by have := isC_iff.1 hc; omega)
  have HCH := Lib.hid (fun W => refChar_is (n : Int) true (decide_eq_true hc).symm W)
  have HCC := Lib.hid hc
  rw [← hr] at h8
  have H8 := Lib.hid h8
  clear h8
  have HPUT := Lib.hid (fun W => refPut_any (n : Int) W)
  have hp4 := put_len4 (n : Int)
  obtain ⟨P, hP⟩ : ∃ P, P = put (n : Int) := ⟨_, rfl⟩
  rw [← hP] at HM2 HPUT hp4
  have HPP := Lib.hid hP
  clear hP
  obtain ⟨RB, hRB⟩ : ∃ RB : ByteArray, RB = ⟨P.toArray⟩ := ⟨_, rfl⟩
  have hRl : RB.size = P.length := by rw [hRB, ← size_toList]
  have hr1 : ¬ 9223372036854775807 < 1 + RB.size := by omega
  obtain ⟨T97, hT⟩ : ∃ T : ByteArray, T = ⟨(97 :: P).toArray⟩ := ⟨_, rfl⟩
  have heq : (T97.toList == ((⟨#[97]⟩ : ByteArray) ++ RB).toList) = true := by rw [Lib.toList_data, Lib.toList_data, hT, hRB]; simp
  have HRB := Lib.hid hRB
  have HT := Lib.hid hT
  clear hRB hT hRl hp4
  clear hG hD0 hH hHl hr hc
  go_enter Tryz.func5, Tryz.ntmps5
  go_wp2_with (go_at_call 15; refine (HD.out _).mono ?_; rintro e w1 ⟨rfl, hb1⟩; have HB1 := Lib.hid hb1; clear hb1)
  go_loopg [5, 6] r (fun kx v5 v6 wr => ∃ (i : Nat) (X : ByteArray), v5 = .string X ∧ v6 = .int .i64 (i : Int) ∧ i ≤ r ∧ r - i ≤ kx ∧ Aside (X.data.toList = digL i n) ∧ Aside (w1 = wr))
  case atStart => exact ⟨0, D0, rfl, rfl, Nat.zero_le _, by omega, HDL.out, rfl⟩
  case round =>
    obtain ⟨i, X, rfl, rfl, hi, hkx, HXD, HW⟩ := hrel
    have hWw : w1 = wr := HW
    subst hWw
    clear HW
    have hX : X.data.toList = digL i n := HXD
    have hXs : X.size ≤ 16 := by rw [← size_toList, hX]; have := dig_len i n HN.out; omega
    by_cases hlt : i < r
    · have hltz : (i : Int) < (r : Int) := by omega
      have hx1 : ¬ 9223372036854775807 < 1 + X.size := by omega
      have HN2 := Lib.hid (dig_step hX)
      clear hX HXD
      go_wp2
      go_roundg (r - (i + 1))
      case measure => omega
      case rel => exact ⟨i + 1, _, rfl, by go_num, by omega, Nat.le_refl _, HN2.out, rfl⟩
    · obtain rfl : i = r := by omega
      have hltz : ¬ (i : Int) < (i : Int) := by omega
      have hx1 : ¬ 9223372036854775807 < 3 + X.size := by omega
      have hx2 : ¬ 9223372036854775807 < 3 + X.size + 1 := by omega
      have hXL : X.size = (digL i n).length := by rw [← size_toList, hX]
      have HM1 := Lib.hid (fun W (hW : Glob W) => marks_any W ((⟨#[97, 38, 35]⟩ : ByteArray) ++ X ++ ⟨#[59]⟩) hW)
      have h8z : ¬ (8 : Int) < (X.size : Int) := by have := H8.out; omega
      rw [docA_str hX, resA_ok (by have := H8.out; omega) HCC.out, ← HPP.out] at HM1
      clear hX HXD hXL
      go_wp2_with fail
      refine (HM1.out _ (HG.out.below HB1.out HG.out.size)).mono ?_
      rintro e w2 ⟨hb2, mv1, B1, zs1, hz1, rfl, -, hmr1⟩
      have HB2 := Lib.hid (HB1.out.trans (hb2.mono HB1.out.size))
      obtain ⟨g1, c1, u1, rfl, hg1, he1, -⟩ := one_of hmr1 hz1
      have HE1 := Lib.hid he1
      have HG1 := Lib.hid hg1
      clear hb2 hmr1 hz1 he1 hg1
      go_wp2_with fail
      refine (HX.out _).mono ?_
      rintro e w3 ⟨rfl, hb3⟩
      have HB3 := Lib.hid (HB2.out.trans (hb3.mono HB2.out.size))
      have HE3 := Lib.hid (HE1.out.below HG1.out hb3)
      have HG3 := Lib.hid (Nat.lt_of_lt_of_le HG1.out hb3.size)
      clear hb3
      go_wp2_with fail
      refine (HM2.out _ (HG.out.below HB3.out HG.out.size)).mono ?_
      rintro e w4 ⟨hb4, mv2, B2, zs2, hz2, rfl, -, hmr2⟩
      have HB4 := Lib.hid (HB3.out.trans (hb4.mono HB3.out.size))
      obtain ⟨g2, c2, u2, rfl, hg2, he2, ha2⟩ := one_of hmr2 hz2
      obtain ⟨h2, d2, rfl, hh2, -, a1, -⟩ := ha2.elem (j := 0) (by simp)
      simp only [List.getElem_cons_zero, Nat.zero_mul, Nat.zero_add] at a1
      rw [← HRB.out] at a1
      have HE4 := Lib.hid (HE3.out.below HG3.out hb4)
      have HG4 := Lib.hid (Nat.lt_of_lt_of_le HG3.out hb4.size)
      have HE2 := Lib.hid he2
      have HG2 := Lib.hid hg2
      have HA1 := Lib.hid a1
      have HH2 := Lib.hid hh2
      clear hb4 hmr2 hz2 hg2 ha2 hh2 a1 he2
      go_wp2_with fail
      refine (HAW.out _ (HG.out.below HB4.out HG.out.size)).mono ?_
      rintro e w5 ⟨rfl, hb5⟩
      have HB5 := Lib.hid (HB4.out.trans (hb5.mono HB4.out.size))
      have HE5 := Lib.hid (HE4.out.below HG4.out hb5)
      have HG5 := Lib.hid (Nat.lt_of_lt_of_le HG4.out hb5.size)
      have HE25 := Lib.hid (HE2.out.below HG2.out hb5)
      have HG25 := Lib.hid (Nat.lt_of_lt_of_le HG2.out hb5.size)
      have HA5 := Lib.hid ((hb5.cell (p := ⟨h2, 1, none⟩) HH2.out).trans HA1.out)
      have HH5 := Lib.hid (Nat.lt_of_lt_of_le HH2.out hb5.size)
      clear hb5
      go_wp2_with (go_at_call 17; refine (HCH.out _).mono ?_; rintro e w6 ⟨rfl, rfl⟩)
      refine (HPUT.out _).mono ?_
      rintro e w7 ⟨A, n7, c7, rfl, hh7, hb7⟩
      have hcv := conv_hold hh7
      rw [← HRB.out] at hcv
      have HB7 := Lib.hid (HB5.out.trans (hb7.mono HB5.out.size))
      obtain ⟨-, -, -, -, k4, -⟩ := HE5.out.below HG5.out hb7
      obtain ⟨-, -, q2, -, -, -⟩ := HE25.out.below HG25.out hb7
      have a1 := (hb7.cell (p := ⟨h2, 1, none⟩) HH5.out).trans HA5.out
      simp only [Nat.zero_mul, Nat.zero_add, List.length_cons, List.length_nil] at k4 q2
      rw [← HT.out] at k4
      clear hb7 hh7
      go_wp2_with fail
      go_ret
      exact ⟨rfl, HB7.out⟩
theorem refers_any (w : World) (n m : Nat) (hG : Glob w) (hn : n < 4294967296) (hm : m < 256) :
    Calls Tryz.prog 5 #[.int .u32 (n : Int), .int .u8 (m : Int)] w fun e w' => e = .returned (.bool true) ∧ Below w.heap.size w w' := by
  by_cases hc : isC (n : Int)
  · by_cases h8 : 8 < (digL (m % 6) n).length
    · exact refers_long w n m hG hn hm hc h8
    · exact refers_ok w n m hG hn hm hc h8
  · by_cases hb : n ≤ 1114111
    · exact refers_no0 w n m hG hn hm hc hb
    · exact refers_no1 w n m hG hn hm hc hb
end Go.Proofs.YtbokcihlbpeagaaGreatDoor
