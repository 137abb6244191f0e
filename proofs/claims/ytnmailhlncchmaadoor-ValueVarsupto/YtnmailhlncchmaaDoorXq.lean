/-
  What is proved: contracts of value's quoted and unescaped. Conditions: those in each statement.
-/
import Derived.Test.YtnmailhlncchmaaDoorXb
namespace Go.Proofs.YtnmailhlncchmaaDoor
open Go.RowKit

theorem Bd.le {w : World} {b : Nat} {l : List UInt8} (h : Bd w b l) : b ≤ w.heap.size := by
  rcases h with h | h
  all_goals
    obtain ⟨_, v, hv, _⟩ := h
    rcases Nat.lt_or_ge b w.heap.size with h' | h'
    · omega
    · simp [Array.getElem?_eq_none h'] at hv
theorem esc_len2 (s : ByteArray) (k : Nat) : (escV (s.data.toList.take k)).length ≤ 2 * s.size := by
  have := (esc_len (s.data.toList.take k)).1
  have h2 : (s.data.toList.take k).length ≤ s.size := by rw [List.length_take, size_toList]; omega
  omega
theorem take_on (s : ByteArray) (k : Nat) (h : k < s.size) : s.data.toList.take (k + 1) = s.data.toList.take k ++ [s[k]] := by
  rw [List.take_add_one, List.getElem?_eq_getElem (by rw [size_toList]; exact h), str_at s k h]; rfl
theorem esc_on_q (s : ByteArray) (k : Nat) (h : k < s.size) (hc : s[k].toNat = 34 ∨ s[k].toNat = 92) : 34 :: escV (s.data.toList.take (k + 1)) = (34 :: escV (s.data.toList.take k)) ++ [92] ++ [s[k]] := by
  rw [take_on s k h, escV_append]
  simp only [escV, if_pos hc, List.cons_append, List.append_assoc, List.nil_append]
theorem esc_on_p (s : ByteArray) (k : Nat) (h : k < s.size) (hc : ¬ (s[k].toNat = 34 ∨ s[k].toNat = 92)) : 34 :: escV (s.data.toList.take (k + 1)) = (34 :: escV (s.data.toList.take k)) ++ [s[k]] := by
  rw [take_on s k h, escV_append]
  simp only [escV, if_neg hc, List.cons_append]
set_option maxHeartbeats 8000000 in
set_option maxRecDepth 100000 in
theorem quoted_any (w : World) (s : ByteArray) (hs : s.size ≤ 65536) : Calls Tryd.prog 31 #[.string s] w fun e w' => e = .returned (.string ⟨(34 :: (escV s.data.toList ++ [34])).toArray⟩) ∧ Below w.heap.size w w' := by
  have hsz : s.data.toList.length = s.size := size_toList s
  have HWB := Lib.hid (fun (l : List UInt8) (c : UInt8) (W : World) (h : Bd W w.heap.size l) (hl : l.length + 1 ≤ 140737488355328) => writeB w.heap.size l c W h hl)
  have HSB := Lib.hid (fun (l : List UInt8) (W : World) (h : Bd W w.heap.size l) => stringB w.heap.size l W h h.le)
  have HF := Lib.hid (Bd.fresh w)
  have HF0 := Lib.hid ((Below.refl w.heap.size w).alloc (Nat.le_refl _) (.cells #[.pointer none, .slice none 0 0] 65 (0, 0)))
  go_enter Tryd.func31, Tryd.ntmps31
  go_wp2_with (go_at_call 46; refine (HWB.out [] 34 _ HF.out (by simp)).mono ?_; rintro e w1 ⟨rfl, h1, hb1⟩; have H1 := Lib.hid h1; have HB1 := Lib.hid (HF0.out.trans hb1); clear h1 hb1)
  go_loopg [8] s.size (fun kx v8 wr => ∃ k : Nat, v8 = .int .i64 (k : Int) ∧ k ≤ s.size ∧ s.size - k ≤ kx ∧ Hid (Bd wr w.heap.size (34 :: escV (s.data.toList.take k))) ∧ Hid (Below w.heap.size w wr))
  case atStart => exact ⟨0, rfl, Nat.zero_le _, by omega, Lib.hid H1.out, HB1⟩
  case round =>
    clear H1 HB1 HF HF0
    obtain ⟨k, rfl, hk, hkx, HD, HB⟩ := hrel
    by_cases he : k < s.size
    · have hl := esc_len2 s k
      by_cases hq : s[k].toNat = 34 ∨ s[k].toNat = 92
      · have HN := Lib.hid (esc_on_q s k he hq)
        by_cases h34 : s[k].toNat = 34
        · have q34 : ((s[k].toNat : Int) == 34) = true := beq_iff_eq.2 (by omega)
          clear hq h34
          go_wp2_with (first
            | (go_at_call 46; refine (HWB.out _ s[k] _ H1.out (by simp; omega)).mono ?_; rintro e w2 ⟨rfl, h2, hb2⟩; have H2 := Lib.hid h2; have HB2 := Lib.hid (HB1.out.trans hb2); clear h2 hb2)
            | (go_at_call 46; refine (HWB.out _ 92 _ HD.out (by simp; omega)).mono ?_; rintro e w1 ⟨rfl, h1, hb1⟩; have H1 := Lib.hid h1; have HB1 := Lib.hid (HB.out.trans hb1); clear h1 hb1))
          go_roundg (s.size - (k + 1))
          case measure => omega
          case rel => exact ⟨k + 1, by go_num, by omega, Nat.le_refl _, Lib.hid (by rw [HN.out]; exact H2.out), HB2⟩
        · have q34 : ((s[k].toNat : Int) == 34) = false := beq_eq_false_iff_ne.2 (by omega)
          have q92 : ((s[k].toNat : Int) == 92) = true := beq_iff_eq.2 (by omega)
          clear hq h34
          go_wp2_with (first
            | (go_at_call 46; refine (HWB.out _ s[k] _ H1.out (by simp; omega)).mono ?_; rintro e w2 ⟨rfl, h2, hb2⟩; have H2 := Lib.hid h2; have HB2 := Lib.hid (HB1.out.trans hb2); clear h2 hb2)
            | (go_at_call 46; refine (HWB.out _ 92 _ HD.out (by simp; omega)).mono ?_; rintro e w1 ⟨rfl, h1, hb1⟩; have H1 := Lib.hid h1; have HB1 := Lib.hid (HB.out.trans hb1); clear h1 hb1))
          go_roundg (s.size - (k + 1))
          case measure => omega
          case rel => exact ⟨k + 1, by go_num, by omega, Nat.le_refl _, Lib.hid (by rw [HN.out]; exact H2.out), HB2⟩
      · have HN := Lib.hid (esc_on_p s k he hq)
        have q34 : ((s[k].toNat : Int) == 34) = false := beq_eq_false_iff_ne.2 (by omega)
        have q92 : ((s[k].toNat : Int) == 92) = false := beq_eq_false_iff_ne.2 (by omega)
        clear hq
        go_wp2_with (go_at_call 46; refine (HWB.out _ s[k] _ HD.out (by simp; omega)).mono ?_; rintro e w2 ⟨rfl, h2, hb2⟩; have H2 := Lib.hid h2; have HB2 := Lib.hid (HB.out.trans hb2); clear h2 hb2)
        go_roundg (s.size - (k + 1))
        case measure => omega
        case rel => exact ⟨k + 1, by go_num, by omega, Nat.le_refl _, Lib.hid (by rw [HN.out]; exact H2.out), HB2⟩
    · have hT : s.data.toList.take k = s.data.toList := List.take_of_length_le (by omega)
      rw [hT] at HD
      have hl := (esc_len s.data.toList).1
      clear hT
      go_wp2_with (first
        | (go_at_call 46; refine (HWB.out _ 34 _ HD.out (by simp; omega)).mono ?_; rintro e w1 ⟨rfl, h1, hb1⟩; have H1 := Lib.hid h1; have HB1 := Lib.hid (HB.out.trans hb1); clear h1 hb1)
        | (go_at_call 47; refine (HSB.out _ _ H1.out).mono ?_; rintro e w2 ⟨rfl, hb2⟩; have HB2 := Lib.hid (HB1.out.trans hb2); clear hb2))
      go_ret
      exact ⟨rfl, HB2.out⟩

/-- behind k bytes: what is read, and what is left to read -/
theorem une_on (s : ByteArray) (k : Nat) (h : k < s.size) (hc : s[k].toNat ≠ 92) : uneV (tl s k) = s[k] :: uneV (tl s (k + 1)) := by
  rw [tl_cons s k h, uneV_plain hc]
theorem une_on2 (s : ByteArray) (k : Nat) (h : k + 1 < s.size) (hc : s[k].toNat = 92) : uneV (tl s k) = s[k + 1] :: uneV (tl s (k + 2)) := by
  have e : s[k] = 92 := UInt8.toNat_inj.1 hc
  rw [tl_cons s k (by omega), tl_cons s (k + 1) h, e, uneV_esc]
theorem une_end (s : ByteArray) (k : Nat) (h : k < s.size) (h1 : ¬ k + 1 < s.size) : uneV (tl s k) = s[k] :: uneV (tl s (k + 1)) := by
  rw [tl_cons s k h, (tl_nil (by omega)).2 (by omega)]; rfl
set_option maxHeartbeats 8000000 in
set_option maxRecDepth 100000 in
theorem unescaped_any (w : World) (s : ByteArray) (hs : s.size ≤ 65536) : Calls Tryd.prog 48 #[.string s] w fun e w' => e = .returned (.string ⟨(uneV s.data.toList).toArray⟩) ∧ Below w.heap.size w w' := by
  have hsz : s.data.toList.length = s.size := size_toList s
  have HWB := Lib.hid (fun (l : List UInt8) (c : UInt8) (W : World) (h : Bd W w.heap.size l) (hl : l.length + 1 ≤ 140737488355328) => writeB w.heap.size l c W h hl)
  have HSB := Lib.hid (fun (l : List UInt8) (W : World) (h : Bd W w.heap.size l) => stringB w.heap.size l W h h.le)
  have HF := Lib.hid (Bd.fresh w)
  have HF0 := Lib.hid ((Below.refl w.heap.size w).alloc (Nat.le_refl _) (.cells #[.pointer none, .slice none 0 0] 65 (0, 0)))
  have HU : Hid (uneV s.data.toList = uneV (tl s 0)) := Lib.hid rfl
  go_enter Tryd.func48, Tryd.ntmps48
  go_wp2
  go_loopg [4] s.size (fun kx v4 wr => ∃ (k : Nat) (l : List UInt8), v4 = .int .i64 (k : Int) ∧ k ≤ s.size ∧ s.size - k ≤ kx ∧ l.length ≤ k ∧ Hid (Bd wr w.heap.size l) ∧ Hid (uneV (tl s 0) = l ++ uneV (tl s k)) ∧ Hid (Below w.heap.size w wr))
  case atStart => exact ⟨0, [], rfl, Nat.zero_le _, by omega, Nat.le_refl _, HF, Lib.hid rfl, HF0⟩
  case round =>
    clear HF HF0
    obtain ⟨k, l, rfl, hk, hkx, hll, HD, HI, HB⟩ := hrel
    by_cases he : k < s.size
    · by_cases hc : s[k].toNat = 92
      · have q92 : ((s[k].toNat : Int) == 92) = true := beq_iff_eq.2 (by omega)
        by_cases he1 : k + 1 < s.size
        · have HN : Hid (uneV (tl s 0) = (l ++ [s[k + 1]]) ++ uneV (tl s (k + 2))) := Lib.hid (by rw [HI.out, une_on2 s k he1 hc]; simp)
          clear hc HI
          go_wp2_with (go_at_call 46; refine (HWB.out _ s[k + 1] _ HD.out (by omega)).mono ?_; rintro e w2 ⟨rfl, h2, hb2⟩; have H2 := Lib.hid h2; have HB2 := Lib.hid (HB.out.trans hb2); clear h2 hb2)
          go_roundg (s.size - (k + 2))
          case measure => omega
          case rel => exact ⟨k + 2, _, by go_num, by omega, Nat.le_refl _, by simp; omega, H2, HN, HB2⟩
        · have HN : Hid (uneV (tl s 0) = (l ++ [s[k]]) ++ uneV (tl s (k + 1))) := Lib.hid (by rw [HI.out, une_end s k he he1]; simp)
          clear hc HI
          go_wp2_with (go_at_call 46; refine (HWB.out _ s[k] _ HD.out (by omega)).mono ?_; rintro e w2 ⟨rfl, h2, hb2⟩; have H2 := Lib.hid h2; have HB2 := Lib.hid (HB.out.trans hb2); clear h2 hb2)
          go_roundg (s.size - (k + 1))
          case measure => omega
          case rel => exact ⟨k + 1, _, by go_num, by omega, Nat.le_refl _, by simp; omega, H2, HN, HB2⟩
      · have q92 : ((s[k].toNat : Int) == 92) = false := beq_eq_false_iff_ne.2 (by omega)
        have HN : Hid (uneV (tl s 0) = (l ++ [s[k]]) ++ uneV (tl s (k + 1))) := Lib.hid (by rw [HI.out, une_on s k he hc]; simp)
        clear hc HI
        go_wp2_with (go_at_call 46; refine (HWB.out _ s[k] _ HD.out (by omega)).mono ?_; rintro e w2 ⟨rfl, h2, hb2⟩; have H2 := Lib.hid h2; have HB2 := Lib.hid (HB.out.trans hb2); clear h2 hb2)
        go_roundg (s.size - (k + 1))
        case measure => omega
        case rel => exact ⟨k + 1, _, by go_num, by omega, Nat.le_refl _, by simp; omega, H2, HN, HB2⟩
    · have HN : Hid (uneV s.data.toList = l) := Lib.hid (by rw [HU.out, HI.out, (tl_nil hk).2 (by omega)]; exact List.append_nil l)
      clear HI
      go_wp2_with (go_at_call 47; refine (HSB.out _ _ HD.out).mono ?_; rintro e w2 ⟨rfl, hb2⟩; have HB2 := Lib.hid (HB.out.trans hb2); clear hb2)
      go_ret
      exact ⟨by rw [HN.out]; rfl, HB2.out⟩
end Go.Proofs.YtnmailhlncchmaaDoor
