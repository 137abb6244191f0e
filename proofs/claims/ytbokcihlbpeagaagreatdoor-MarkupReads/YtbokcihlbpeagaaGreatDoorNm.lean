/-
  What is proved: contracts of the document's swap, Escape, Quote and Check, and of the law's chars. Conditions: those in each statement.
-/
import Derived.Test.YtbokcihlbpeagaaGreatDoorNl
import Derived.Test.YtbokcihlbpeagaaGreatDoorNb
namespace Go.Proofs.YtbokcihlbpeagaaGreatDoor
open Go.RowKit Go.Lib

theorem own_bel' {w w' : World} {base n : Nat} {v : Value} {xs : List Value} (h : w.ownsRow base 5 1 v n xs) (hb : Below w.heap.size w w') : w'.ownsRow base 5 1 v n xs :=
  h.kept (row := none) ⟨hb.os, hb.tape, hb.output, hb.size, fun k hk _ => hb.block k hk⟩ (by cases hv : v.ownBlock <;> simp)
theorem own_fresh (w : World) (l : List UInt8) (hl : l.length ≤ 1048576) {base : Nat} (hb : base ≤ w.heap.size) : (w.alloc (.cells (bv l).toArray 5)).ownsRow base 5 1 (.slice (some ⟨w.heap.size, 0, none⟩) l.length l.length) l.length (bv l) := by
  refine ⟨by rw [bv_length, Nat.mul_one], .inr ⟨w.heap.size, l.length, (bv l).toArray, rfl, hb, heap_at _ _ _ rfl, Nat.le_refl _, by unfold maxLen; omega, by simp [bv_length], ?_⟩⟩
  rw [Nat.mul_one, List.take_of_length_le (by simp [bv_length])]
set_option maxRecDepth 100000 in
theorem dSwap_any (b : UInt8) (v : Bool) (w : World) :
    Calls Tryz.prog 32 #[.int .u8 (b.toNat : Int), .bool v] w fun e w' => e = .returned (.string ⟨(swp v b).toArray⟩) ∧ Below w.heap.size w w' := by
  have key : ∀ c : UInt8, b ≠ c → ((b.toNat : Int) == (c.toNat : Int)) = false := fun c h => beq_eq_false_iff_ne.2 (fun e => h (UInt8.toNat_inj.1 (by omega)))
  by_cases h38 : b = 38
  · have f60 : ((b.toNat : Int) == 60) = false := by rw [h38]; rfl
    have f62 : ((b.toNat : Int) == 62) = false := by rw [h38]; rfl
    have f13 : ((b.toNat : Int) == 13) = false := by rw [h38]; rfl
    have f34 : ((b.toNat : Int) == 34) = false := by rw [h38]; rfl
    have f9 : ((b.toNat : Int) == 9) = false := by rw [h38]; rfl
    have f10 : ((b.toNat : Int) == 10) = false := by rw [h38]; rfl
    have f38 : ((b.toNat : Int) == 38) = true := by rw [h38]; rfl
    rw [show swp v b = [38, 97, 109, 112, 59] by rw [h38]; rfl]
    clear key h38
    go_enter Tryz.func32, Tryz.ntmps32
    go_wp2
    go_ret
    exact ⟨rfl, Below.refl _ _⟩
  by_cases h60 : b = 60
  · have f38 : ((b.toNat : Int) == 38) = false := by rw [h60]; rfl
    have f62 : ((b.toNat : Int) == 62) = false := by rw [h60]; rfl
    have f13 : ((b.toNat : Int) == 13) = false := by rw [h60]; rfl
    have f34 : ((b.toNat : Int) == 34) = false := by rw [h60]; rfl
    have f9 : ((b.toNat : Int) == 9) = false := by rw [h60]; rfl
    have f10 : ((b.toNat : Int) == 10) = false := by rw [h60]; rfl
    have f60 : ((b.toNat : Int) == 60) = true := by rw [h60]; rfl
    rw [show swp v b = [38, 108, 116, 59] by rw [h60]; rfl]
    clear key h60
    go_enter Tryz.func32, Tryz.ntmps32
    go_wp2
    go_ret
    exact ⟨rfl, Below.refl _ _⟩
  by_cases h62 : b = 62
  · have f38 : ((b.toNat : Int) == 38) = false := by rw [h62]; rfl
    have f60 : ((b.toNat : Int) == 60) = false := by rw [h62]; rfl
    have f13 : ((b.toNat : Int) == 13) = false := by rw [h62]; rfl
    have f34 : ((b.toNat : Int) == 34) = false := by rw [h62]; rfl
    have f9 : ((b.toNat : Int) == 9) = false := by rw [h62]; rfl
    have f10 : ((b.toNat : Int) == 10) = false := by rw [h62]; rfl
    have f62 : ((b.toNat : Int) == 62) = true := by rw [h62]; rfl
    cases v with
    | true =>
      rw [show swp true b = [b] by rw [h62]; rfl]
      have hcv := conv_new [b] #[.int .u8 (b.toNat : Int)] rfl w 1 rfl
      clear key h62
      go_enter Tryz.func32, Tryz.ntmps32
      go_wp2
      go_ret
      exact ⟨rfl, (Below.refl _ _).alloc (Nat.le_refl _) _⟩
    | false =>
      rw [show swp false b = [38, 103, 116, 59] by rw [h62]; rfl]
      clear key h62
      go_enter Tryz.func32, Tryz.ntmps32
      go_wp2
      go_ret
      exact ⟨rfl, Below.refl _ _⟩
  by_cases h13 : b = 13
  · have f38 : ((b.toNat : Int) == 38) = false := by rw [h13]; rfl
    have f60 : ((b.toNat : Int) == 60) = false := by rw [h13]; rfl
    have f62 : ((b.toNat : Int) == 62) = false := by rw [h13]; rfl
    have f34 : ((b.toNat : Int) == 34) = false := by rw [h13]; rfl
    have f9 : ((b.toNat : Int) == 9) = false := by rw [h13]; rfl
    have f10 : ((b.toNat : Int) == 10) = false := by rw [h13]; rfl
    have f13 : ((b.toNat : Int) == 13) = true := by rw [h13]; rfl
    rw [show swp v b = [38, 35, 49, 51, 59] by rw [h13]; rfl]
    clear key h13
    go_enter Tryz.func32, Tryz.ntmps32
    go_wp2
    go_ret
    exact ⟨rfl, Below.refl _ _⟩
  by_cases h34 : b = 34
  · have f38 : ((b.toNat : Int) == 38) = false := by rw [h34]; rfl
    have f60 : ((b.toNat : Int) == 60) = false := by rw [h34]; rfl
    have f62 : ((b.toNat : Int) == 62) = false := by rw [h34]; rfl
    have f13 : ((b.toNat : Int) == 13) = false := by rw [h34]; rfl
    have f9 : ((b.toNat : Int) == 9) = false := by rw [h34]; rfl
    have f10 : ((b.toNat : Int) == 10) = false := by rw [h34]; rfl
    have f34 : ((b.toNat : Int) == 34) = true := by rw [h34]; rfl
    cases v with
    | true =>
      rw [show swp true b = [38, 113, 117, 111, 116, 59] by rw [h34]; rfl]
      clear key h34
      go_enter Tryz.func32, Tryz.ntmps32
      go_wp2
      go_ret
      exact ⟨rfl, Below.refl _ _⟩
    | false =>
      rw [show swp false b = [b] by rw [h34]; rfl]
      have hcv := conv_new [b] #[.int .u8 (b.toNat : Int)] rfl w 1 rfl
      clear key h34
      go_enter Tryz.func32, Tryz.ntmps32
      go_wp2
      go_ret
      exact ⟨rfl, (Below.refl _ _).alloc (Nat.le_refl _) _⟩
  by_cases h9 : b = 9
  · have f38 : ((b.toNat : Int) == 38) = false := by rw [h9]; rfl
    have f60 : ((b.toNat : Int) == 60) = false := by rw [h9]; rfl
    have f62 : ((b.toNat : Int) == 62) = false := by rw [h9]; rfl
    have f13 : ((b.toNat : Int) == 13) = false := by rw [h9]; rfl
    have f34 : ((b.toNat : Int) == 34) = false := by rw [h9]; rfl
    have f10 : ((b.toNat : Int) == 10) = false := by rw [h9]; rfl
    have f9 : ((b.toNat : Int) == 9) = true := by rw [h9]; rfl
    cases v with
    | true =>
      rw [show swp true b = [38, 35, 57, 59] by rw [h9]; rfl]
      clear key h9
      go_enter Tryz.func32, Tryz.ntmps32
      go_wp2
      go_ret
      exact ⟨rfl, Below.refl _ _⟩
    | false =>
      rw [show swp false b = [b] by rw [h9]; rfl]
      have hcv := conv_new [b] #[.int .u8 (b.toNat : Int)] rfl w 1 rfl
      clear key h9
      go_enter Tryz.func32, Tryz.ntmps32
      go_wp2
      go_ret
      exact ⟨rfl, (Below.refl _ _).alloc (Nat.le_refl _) _⟩
  by_cases h10 : b = 10
  · have f38 : ((b.toNat : Int) == 38) = false := by rw [h10]; rfl
    have f60 : ((b.toNat : Int) == 60) = false := by rw [h10]; rfl
    have f62 : ((b.toNat : Int) == 62) = false := by rw [h10]; rfl
    have f13 : ((b.toNat : Int) == 13) = false := by rw [h10]; rfl
    have f34 : ((b.toNat : Int) == 34) = false := by rw [h10]; rfl
    have f9 : ((b.toNat : Int) == 9) = false := by rw [h10]; rfl
    have f10 : ((b.toNat : Int) == 10) = true := by rw [h10]; rfl
    cases v with
    | true =>
      rw [show swp true b = [38, 35, 49, 48, 59] by rw [h10]; rfl]
      clear key h10
      go_enter Tryz.func32, Tryz.ntmps32
      go_wp2
      go_ret
      exact ⟨rfl, Below.refl _ _⟩
    | false =>
      rw [show swp false b = [b] by rw [h10]; rfl]
      have hcv := conv_new [b] #[.int .u8 (b.toNat : Int)] rfl w 1 rfl
      clear key h10
      go_enter Tryz.func32, Tryz.ntmps32
      go_wp2
      go_ret
      exact ⟨rfl, (Below.refl _ _).alloc (Nat.le_refl _) _⟩
  have f38 : ((b.toNat : Int) == 38) = false := key 38 h38
  have f60 : ((b.toNat : Int) == 60) = false := key 60 h60
  have f62 : ((b.toNat : Int) == 62) = false := key 62 h62
  have f13 : ((b.toNat : Int) == 13) = false := key 13 h13
  have f34 : ((b.toNat : Int) == 34) = false := key 34 h34
  have f9 : ((b.toNat : Int) == 9) = false := key 9 h9
  have f10 : ((b.toNat : Int) == 10) = false := key 10 h10
  rw [show swp v b = [b] by unfold swp; rw [if_neg h38, if_neg h60, if_neg (fun h => h62 h.1), if_neg h13, if_neg (fun h => h34 h.1), if_neg (fun h => h9 h.1), if_neg (fun h => h10 h.1)]]
  have hcv := conv_new [b] #[.int .u8 (b.toNat : Int)] rfl w 1 rfl
  clear key h38 h60 h62 h13 h34 h9 h10
  go_enter Tryz.func32, Tryz.ntmps32
  go_wp2
  go_ret
  exact ⟨rfl, (Below.refl _ _).alloc (Nat.le_refl _) _⟩
set_option maxHeartbeats 2000000 in
set_option maxRecDepth 100000 in
theorem dEscape_any (t : ByteArray) (hs : t.size ≤ 1048576) (w : World) :
    Calls Tryz.prog 12 #[.string t] w fun e w' => e = .returned (.string ⟨(escO false t.data.toList).toArray⟩) ∧ Below w.heap.size w w' := by
  obtain ⟨F, hF⟩ : ∃ F, F = escO false t.data.toList := ⟨_, rfl⟩
  rw [show escO false t.data.toList = F by rw [hF]]
  have HF := Lib.hid hF
  obtain ⟨i0, hi0, hz0, hz1, hz2⟩ := info_parts Tryz.info5
  clear hF
  go_enter Tryz.func12, Tryz.ntmps12
  go_wp2
  go_loopg [3, 4] t.size (fun kx v3 v4 wr => ∃ (i n c : Nat) (A : Option Addr) (l : List UInt8), v3 = .slice A n c ∧ v4 = .int .i64 (i : Int) ∧ i ≤ t.size ∧ n ≤ 6 * i + 1 ∧ t.size - i ≤ kx ∧ Aside (wr.ownsRow w.heap.size 5 1 (.slice A n c) n (bv l)) ∧ Aside (F = l ++ escO false (t.data.toList.drop i)) ∧ Aside (Below w.heap.size w wr))
  case atStart => exact ⟨0, 0, 0, none, [], rfl, rfl, Nat.zero_le _, by omega, by omega, (World.ownsRow_nil _ _ _ _ : Aside _), HF.out, (Below.refl _ _ : Aside _)⟩
  case round =>
    obtain ⟨i, n, c, A, l, rfl, rfl, hi, hn, hkx, HO, HI, HB⟩ := hrel
    have pi : (0 : Int) ≤ (i : Int) := by omega
    by_cases hlt : i < t.size
    · have hltz : (i : Int) < (t.size : Int) := by omega
      have hcons := nxAt_cons t i hlt
      have HN : Aside (F = (l ++ swp false t[i]) ++ escO false (t.data.toList.drop (i + 1))) := by
        have h1 : F = l ++ escO false (t.data.toList.drop i) := HI
        show _ = _
        rw [h1, hcons, escO_cons, List.append_assoc]
      have HS := Lib.hid (fun W => dSwap_any t[i] false W)
      have hl6 := swp_len false t[i]
      obtain ⟨X, hX⟩ : ∃ X, X = swp false t[i] := ⟨_, rfl⟩
      rw [← hX] at HN HS hl6
      obtain ⟨tb, htb⟩ : ∃ tb : ByteArray, tb = ⟨X.toArray⟩ := ⟨_, rfl⟩
      have hts : tb.size = X.length := by rw [htb, ← size_toList]
      have HST : Hid (strCells tb = bv X) := Lib.hid (by rw [htb]; rfl)
      rw [← htb] at HS
      have hts6 : tb.size ≤ 6 := by omega
      have HTS := Lib.hid hts
      clear hX htb hts hl6 hcons HI
      go_wp2_with (first
        | (go_at_call 32; refine (HS.out _).mono ?_; rintro e w2 ⟨rfl, hb2⟩; have HB2 := Lib.hid (Below.trans HB (Below.mono hb2 (Below.size HB))); have HO2 := Lib.hid (own_bel' (show wr.ownsRow w.heap.size 5 1 (.slice A n c) n (bv l) from HO) hb2); clear hb2)
        | (at_builtin; refine wpList_append_own_string _ rfl (.tmp 11) (.tmp 15) 42 9 rfl w.heap.size 5 i0 Tryz.underlying42 Tryz.underlying9 hi0 hz0 hz1 hz2 (.slice A n c) n (bv l) rfl HO2.out tb rfl (by unfold maxLen; omega) (by omega) HB2.out.size ?_; intro v1 w1 hown1 hgrow1 _; obtain ⟨A1, c1, rfl⟩ := own_form hown1))
      have hown2 : w1.ownsRow w.heap.size 5 1 (.slice A1 (n + tb.size) c1) (n + tb.size) (bv (l ++ X)) := by rw [bv_append, ← HST.out]; exact hown1
      go_roundg (t.size - (i + 1))
      case measure => omega
      case rel => exact ⟨i + 1, n + tb.size, c1, A1, l ++ X, rfl, by go_num, hlt, by omega, Nat.le_refl _, hown2, HN, (HB2.out.grown hgrow1 HB2.out.size (fun k hk => (World.ownsRow.lt (v := .slice A n c) HO2.out k hk).1) : Aside _)⟩
    · obtain rfl : i = t.size := by omega
      have hltz : ¬ (t.size : Int) < (t.size : Int) := by omega
      have HE : Hid (F = l) := Lib.hid (by
        have h1 : F = l ++ escO false (t.data.toList.drop t.size) := HI
        rw [List.drop_of_length_le (by rw [size_toList]; omega)] at h1
        rw [h1]
        exact List.append_nil l)
      have hcv := conv_hold (Hold.of_own (show wr.ownsRow w.heap.size 5 1 (.slice A n c) n (bv l) from HO))
      clear HI HO
      go_wp2
      go_ret
      exact ⟨by rw [HE.out]; rfl, HB⟩
set_option maxHeartbeats 2000000 in
set_option maxRecDepth 100000 in
theorem dQuote_any (t : ByteArray) (hs : t.size ≤ 1048576) (w : World) :
    Calls Tryz.prog 13 #[.string t] w fun e w' => e = .returned (.string ⟨(34 :: escO true t.data.toList ++ [34]).toArray⟩) ∧ Below w.heap.size w w' := by
  obtain ⟨F, hF⟩ : ∃ F, F = 34 :: escO true t.data.toList := ⟨_, rfl⟩
  rw [show 34 :: escO true t.data.toList ++ [34] = F ++ [34] by rw [hF]]
  have HF := Lib.hid hF
  obtain ⟨i0, hi0, hz0, hz1, hz2⟩ := info_parts Tryz.info5
  clear hF
  go_enter Tryz.func13, Tryz.ntmps13
  go_wp2
  go_loopg [3, 4] t.size (fun kx v3 v4 wr => ∃ (i n c : Nat) (A : Option Addr) (l : List UInt8), v3 = .slice A n c ∧ v4 = .int .i64 (i : Int) ∧ i ≤ t.size ∧ n ≤ 6 * i + 1 ∧ t.size - i ≤ kx ∧ Aside (wr.ownsRow w.heap.size 5 1 (.slice A n c) n (bv l)) ∧ Aside (F = l ++ escO true (t.data.toList.drop i)) ∧ Aside (Below w.heap.size w wr))
  case atStart => exact ⟨0, 1, 1, some ⟨w.heap.size, 0, none⟩, [34], rfl, rfl, Nat.zero_le _, by omega, by omega, (own_fresh w [34] (by simp) (Nat.le_refl _) : Aside _), HF.out, ((Below.refl _ _).alloc (Nat.le_refl _) _ : Aside _)⟩
  case round =>
    obtain ⟨i, n, c, A, l, rfl, rfl, hi, hn, hkx, HO, HI, HB⟩ := hrel
    have pi : (0 : Int) ≤ (i : Int) := by omega
    by_cases hlt : i < t.size
    · have hltz : (i : Int) < (t.size : Int) := by omega
      have hcons := nxAt_cons t i hlt
      have HN : Aside (F = (l ++ swp true t[i]) ++ escO true (t.data.toList.drop (i + 1))) := by
        have h1 : F = l ++ escO true (t.data.toList.drop i) := HI
        show _ = _
        rw [h1, hcons, escO_cons, List.append_assoc]
      have HS := Lib.hid (fun W => dSwap_any t[i] true W)
      have hl6 := swp_len true t[i]
      obtain ⟨X, hX⟩ : ∃ X, X = swp true t[i] := ⟨_, rfl⟩
      rw [← hX] at HN HS hl6
      obtain ⟨tb, htb⟩ : ∃ tb : ByteArray, tb = ⟨X.toArray⟩ := ⟨_, rfl⟩
      have hts : tb.size = X.length := by rw [htb, ← size_toList]
      have HST : Hid (strCells tb = bv X) := Lib.hid (by rw [htb]; rfl)
      rw [← htb] at HS
      have hts6 : tb.size ≤ 6 := by omega
      have HTS := Lib.hid hts
      clear hX htb hts hl6 hcons HI
      go_wp2_with (first
        | (go_at_call 32; refine (HS.out _).mono ?_; rintro e w2 ⟨rfl, hb2⟩; have HB2 := Lib.hid (Below.trans HB (Below.mono hb2 (Below.size HB))); have HO2 := Lib.hid (own_bel' (show wr.ownsRow w.heap.size 5 1 (.slice A n c) n (bv l) from HO) hb2); clear hb2)
        | (at_builtin; refine wpList_append_own_string _ rfl (.tmp 12) (.tmp 16) 42 9 rfl w.heap.size 5 i0 Tryz.underlying42 Tryz.underlying9 hi0 hz0 hz1 hz2 (.slice A n c) n (bv l) rfl HO2.out tb rfl (by unfold maxLen; omega) (by omega) HB2.out.size ?_; intro v1 w1 hown1 hgrow1 _; obtain ⟨A1, c1, rfl⟩ := own_form hown1))
      have hown2 : w1.ownsRow w.heap.size 5 1 (.slice A1 (n + tb.size) c1) (n + tb.size) (bv (l ++ X)) := by rw [bv_append, ← HST.out]; exact hown1
      go_roundg (t.size - (i + 1))
      case measure => omega
      case rel => exact ⟨i + 1, n + tb.size, c1, A1, l ++ X, rfl, by go_num, hlt, by omega, Nat.le_refl _, hown2, HN, (HB2.out.grown hgrow1 HB2.out.size (fun k hk => (World.ownsRow.lt (v := .slice A n c) HO2.out k hk).1) : Aside _)⟩
    · obtain rfl : i = t.size := by omega
      have hltz : ¬ (t.size : Int) < (t.size : Int) := by omega
      have HE : Hid (F = l) := Lib.hid (by
        have h1 : F = l ++ escO true (t.data.toList.drop t.size) := HI
        rw [List.drop_of_length_le (by rw [size_toList]; omega)] at h1
        rw [h1]
        exact List.append_nil l)
      clear HI
      go_wp2_with (at_builtin; refine wpList_append_hold rfl (.tmp 18) (.tmp 19) rfl w.heap.size (.slice A n c) n l rfl (World.ownsRow.alloc HO _) (some ⟨wr.heap.size, 0, none⟩) 1 1 [34] rfl (Hold.new wr [34] 5 (0, 0) _ rfl) (by omega) (by have := (Below.size HB); simp; omega) ?_; intro A1 c1 w1 hown1 hgrow1; have hcv := conv_hold (Hold.of_own hown1))
      go_ret
      exact ⟨by rw [HE.out]; rfl, ((Below.alloc HB (Below.size HB) _).grown hgrow1 (by have := (Below.size HB); simp; omega) (fun k hk => (World.ownsRow.lt (v := .slice A n c) HO k hk).1))⟩
/-- a fault as the document tells it -/
def chkV : Option (Nat × Int) → Value
  | none => noF
  | some (x, c) => fltV x c
set_option maxHeartbeats 4000000 in
set_option maxRecDepth 100000 in
theorem dCheck_any (s : ByteArray) (hs : s.size ≤ 140737488355328) (w : World) :
    Calls Tryz.prog 22 #[.string s] w fun e w' => e = .returned (chkV (chkO s.data.toList)) ∧ Below w.heap.size w w' := by
  obtain ⟨O, hO⟩ : ∃ O, O = chkO s.data.toList := ⟨_, rfl⟩
  rw [← hO]
  have hlen : s.data.toList.length = s.size := size_toList s
  by_cases hbig : 65536 < s.size
  · have hz : (65536 : Int) < (s.size : Int) := by omega
    have hv : chkV O = fltV 0 3 := by rw [hO]; unfold chkO; rw [if_pos (by rw [hlen]; exact hbig)]; rfl
    rw [hv]
    have hn : FB (w.alloc (.cells #[.int .i64 0, .int .i64 3] 27)) w.heap.size (.int .i64 0) (.int .i64 3) := heap_at _ _ _ rfl
    have y0 := hn.c0
    have y1 := hn.c1
    clear hn hv hO
    go_enter Tryz.func22, Tryz.ntmps22
    go_wp2
    refine bodyPost_ret (v := fltV 0 3) (by simp only [results, Tryz.results22]; simp [results, go_sem, y0, y1]) rfl ?_
    exact ⟨rfl, (Below.refl _ _).alloc (Nat.le_refl _) _⟩
  have hz : ¬ (65536 : Int) < (s.size : Int) := by omega
  obtain ⟨W0, hW0⟩ : ∃ W0, W0 = w.alloc (.cells #[.int .i64 0, .int .i64 0] 27) := ⟨_, rfl⟩
  have hsz0 : W0.heap.size = w.heap.size + 1 := by rw [hW0]; simp
  have HW0 : Hid (Below w.heap.size w W0 ∧ FB W0 w.heap.size (.int .i64 0) (.int .i64 0) ∧ W0.heap.size = w.heap.size + 1) := Lib.hid (by
    refine ⟨?_, ?_, hsz0⟩
    · rw [hW0]; exact (Below.refl _ _).alloc (Nat.le_refl _) _
    · rw [hW0]; exact FB.new w)
  have HBAD := Lib.hid (fun W => refBad_any s W hs)
  have hbd : bad s = badAt s.data.toList 0 := rfl
  clear hsz0
  rcases badAt_ways s.data.toList _ 0 rfl with h1 | ⟨k, h1, _⟩
  · have HC : Hid (O = (chO s.data.toList 0).map fun k => (k, 81)) := Lib.hid (by rw [hO]; unfold chkO; rw [if_neg (by rw [hlen]; exact hbig), if_neg (by rw [h1]; decide)])
    have HNX := Lib.hid (fun (i : Nat) W => refNext_any s (i : Int) W hs)
    rw [hbd, h1] at HBAD
    clear hO hbig hbd h1
    go_enter Tryz.func22, Tryz.ntmps22
    go_wp2_with fail
    rw [← hW0]
    refine (HBAD.out _).mono ?_
    rintro e w1 ⟨rfl, hb1⟩
    have HB1 := Lib.hid hb1
    clear hb1 hW0
    go_wp2_with fail
    go_loopg [3, 4, 5] s.size (fun kx v3 _ _ wr => ∃ (i : Nat), v3 = .int .i64 (i : Int) ∧ i ≤ s.size ∧ s.size - i ≤ kx ∧ Aside (chO s.data.toList 0 = chO (tl s i) i) ∧ Aside (Below W0.heap.size W0 wr))
    case atStart => exact ⟨0, rfl, Nat.zero_le _, by omega, (by show _ = _; rfl : Aside _), HB1.out⟩
    case round =>
      clear HB1
      obtain ⟨i, rfl, hi, hkx, HI, HB⟩ := hrel
      by_cases hlt : i < s.size
      · have hltz : (i : Int) < (s.size : Int) := by omega
        have HX := Lib.hid (HNX.out i wr)
        rw [nxAt_nat] at HX
        change Hid (Calls Tryz.prog 42 #[.string s, .int .i64 (i : Int)] wr fun e w' => e = .returned (.tuple #[.int .i32 (nx (tl s i)).1, .int .i64 ((nx (tl s i)).2 : Int)]) ∧ Below wr.heap.size wr w') at HX
        have hne : tl s i ≠ [] := by intro e; have := (tl_nil (Nat.le_of_lt hlt)).1 e; omega
        have hI : chO s.data.toList 0 = chO (tl s i) i := HI
        by_cases hc : isC (nx (tl s i)).1
        · have hn := nx_c hc
          rw [tl_length] at hn
          have HN : Aside (chO s.data.toList 0 = chO (tl s (i + (nx (tl s i)).2)) (i + (nx (tl s i)).2)) := by
            show _ = _
            rw [hI, chO_on hne hc, tl_drop]
          generalize nx (tl s i) = Y at *
          obtain ⟨r, m⟩ := Y
          have HCH := Lib.hid (fun W => refChar_is r true (decide_eq_true hc).symm W)
          simp only at hn HN HX
          clear hc hI HI hne
          go_wp2_with (first
            | (go_at_call 42; refine HX.out.mono ?_; rintro e w2 ⟨rfl, hb2⟩; have HB2 := Lib.hid (Below.trans HB (Below.mono hb2 (Below.size HB))); clear hb2)
            | (go_at_call 17; refine (HCH.out _).mono ?_; rintro e w3 ⟨rfl, rfl⟩))
          go_roundg (s.size - (i + m))
          case measure => omega
          case rel => exact ⟨i + m, by go_num, by omega, Nat.le_refl _, HN, HB2.out⟩
        · have HR : Hid (chkV O = fltV i 81) := Lib.hid (by rw [HC.out, hI, chO_no hne hc]; rfl)
          generalize nx (tl s i) = Y at *
          obtain ⟨r, m⟩ := Y
          have HCH := Lib.hid (fun W => refChar_is r false (decide_eq_false hc).symm W)
          simp only at HX
          clear hc hI HI hne
          go_wp2_with (first
            | (go_at_call 42; refine HX.out.mono ?_; rintro e w2 ⟨rfl, hb2⟩; have HB2 := Lib.hid (Below.trans HB (Below.mono hb2 (Below.size HB))); clear hb2; have hfb := (HW0.out.2.1.below HB2.out (by rw [HW0.out.2.2]; omega)); have fb0 := hfb.c0; have fb1 := hfb.c1; have fz0 := hfb.fz 0; have fz1 := hfb.fz 1; have hf2 := (hfb.set0 (.int .i64 (i : Int))).set1 (.int .i64 81); have y0 := hf2.c0; have y1 := hf2.c1; clear hf2 hfb)
            | (go_at_call 17; refine (HCH.out _).mono ?_; rintro e w3 ⟨rfl, rfl⟩))
          refine bodyPost_ret (v := fltV i 81) (by simp only [results, Tryz.results22]; simp [results, go_sem, y0, y1]) rfl ?_
          exact ⟨by rw [HR.out], ((HW0.out.1.trans (Below.mono HB2.out (by rw [HW0.out.2.2]; omega))).setCell (p := ⟨w.heap.size, 0, none⟩) (Nat.le_refl _) _).setCell (p := ⟨w.heap.size, 1, none⟩) (Nat.le_refl _) _⟩
      · obtain rfl : i = s.size := by omega
        have hltz : ¬ (s.size : Int) < (s.size : Int) := by omega
        have HR : Hid (chkV O = fltV 0 0) := Lib.hid (by
          have hI : chO s.data.toList 0 = chO (tl s s.size) s.size := HI
          rw [HC.out, hI, (tl_nil (Nat.le_refl _)).2 rfl]; rfl)
        have hfb := (HW0.out.2.1.below HB (by rw [HW0.out.2.2]; omega))
        clear HI
        have fb0 := hfb.c0
        have fb1 := hfb.c1
        have fz0 := hfb.fz 0
        have fz1 := hfb.fz 1
        have hf2 := (hfb.set0 (.int .i64 0)).set1 (.int .i64 0)
        have y0 := hf2.c0
        have y1 := hf2.c1
        have HBE : Hid (Below w.heap.size w ((wr.setCell ⟨w.heap.size, 0, none⟩ (.int .i64 0)).setCell ⟨w.heap.size, 1, none⟩ (.int .i64 0))) := Lib.hid (((HW0.out.1.trans (Below.mono HB (by rw [HW0.out.2.2]; omega))).setCell (p := ⟨w.heap.size, 0, none⟩) (Nat.le_refl _) _).setCell (p := ⟨w.heap.size, 1, none⟩) (Nat.le_refl _) _)
        clear hf2 hfb
        go_wp2
        refine bodyPost_ret (v := fltV 0 0) (by simp only [results, Tryz.results22]; simp [results, go_sem, y0, y1]) rfl ?_
        exact ⟨by rw [HR.out], HBE.out⟩
  · have HR : Hid (chkV O = fltV k 71) := Lib.hid (by rw [hO]; unfold chkO; rw [if_neg (by rw [hlen]; exact hbig), if_pos (by rw [h1]; omega), h1]; rfl)
    rw [hbd, h1] at HBAD
    have hne : (((k : Int)) != -1) = true := bne_iff_ne.2 (by omega)
    clear hO hbig hbd h1
    go_enter Tryz.func22, Tryz.ntmps22
    go_wp2_with fail
    rw [← hW0]
    refine (HBAD.out _).mono ?_
    rintro e w1 ⟨rfl, hb1⟩
    have HB1 := Lib.hid hb1
    clear hb1 hW0
    go_wp2_with fail
    refine (HBAD.out _).mono ?_
    rintro e w2 ⟨rfl, hb2⟩
    have HB2 := Lib.hid (Below.trans HB1.out (Below.mono hb2 (Below.size HB1.out)))
    clear hb2
    have hfb := (HW0.out.2.1.below HB2.out (by rw [HW0.out.2.2]; omega))
    have fb0 := hfb.c0
    have fb1 := hfb.c1
    have fz0 := hfb.fz 0
    have fz1 := hfb.fz 1
    have hf2 := (hfb.set0 (.int .i64 (k : Int))).set1 (.int .i64 71)
    have y0 := hf2.c0
    have y1 := hf2.c1
    have HBE : Hid (Below w.heap.size w ((w2.setCell ⟨w.heap.size, 0, none⟩ (.int .i64 (k : Int))).setCell ⟨w.heap.size, 1, none⟩ (.int .i64 71))) := Lib.hid (((HW0.out.1.trans (Below.mono HB2.out (by rw [HW0.out.2.2]; omega))).setCell (p := ⟨w.heap.size, 0, none⟩) (Nat.le_refl _) _).setCell (p := ⟨w.heap.size, 1, none⟩) (Nat.le_refl _) _)
    clear hf2 hfb
    go_wp2
    refine bodyPost_ret (v := fltV k 71) (by simp only [results, Tryz.results22]; simp [results, go_sem, y0, y1]) rfl ?_
    exact ⟨by rw [HR.out], HBE.out⟩
theorem fld_why (x c : Int) (W : World) : (Instr.field 27 (.agg #[.int .i64 x, .int .i64 c]) 1).run Tryz.prog W = .ok (.int .i64 c) W := by
  simp [Instr.field, run_underlying Tryz.underlying27, part, asAgg, Tryz.isAgg3, Tryz.sizeOf3, go_sem]
set_option maxRecDepth 100000 in
theorem chars_any (s : ByteArray) (b : Bool) (hb : b = (decide (s.size < 3000) && (chkO s.data.toList).isNone)) (w : World) :
    Calls Tryz.prog 14 #[.string s] w fun e w' => e = .returned (.bool b) ∧ Below w.heap.size w w' := by
  by_cases h : s.size < 3000
  · have hz : (s.size : Int) < 3000 := by omega
    have HC := Lib.hid (fun W => dCheck_any s (by omega) W)
    rw [decide_eq_true h, Bool.true_and] at hb
    cases hc : chkO s.data.toList with
    | none =>
      rw [hc] at HC hb
      subst hb
      have HC2 : Hid (∀ W : World, Calls Tryz.prog 22 #[.string s] W fun e w' => e = .returned (.agg #[.int .i64 0, .int .i64 0]) ∧ Below W.heap.size W w') := HC
      clear HC hc
      go_enter Tryz.func14, Tryz.ntmps14
      have hfld := fun W => fld_why 0 0 W
      go_wp2_with (go_at_call 22; refine (HC2.out _).mono ?_; rintro e w1 ⟨rfl, hb1⟩)
      go_ret
      exact ⟨rfl, hb1⟩
    | some xc =>
      obtain ⟨x, c⟩ := xc
      have hc0 : c ≠ 0 := by
        unfold chkO at hc
        split at hc
        · cases hc; decide
        split at hc
        · cases hc; decide
        cases hq : chO s.data.toList 0 with
        | none => rw [hq] at hc; cases hc
        | some k => rw [hq] at hc; cases hc; decide
      have hcz : (c == 0) = false := beq_eq_false_iff_ne.2 hc0
      rw [hc] at HC hb
      subst hb
      have HC2 : Hid (∀ W : World, Calls Tryz.prog 22 #[.string s] W fun e w' => e = .returned (.agg #[.int .i64 (x : Int), .int .i64 c]) ∧ Below W.heap.size W w') := HC
      clear HC hc hc0
      have hfld := fun W => fld_why (x : Int) c W
      go_enter Tryz.func14, Tryz.ntmps14
      go_wp2_with (go_at_call 22; refine (HC2.out _).mono ?_; rintro e w1 ⟨rfl, hb1⟩)
      go_ret
      exact ⟨rfl, hb1⟩
  · have hz : ¬ (s.size : Int) < 3000 := by omega
    rw [decide_eq_false h, Bool.false_and] at hb
    subst hb
    go_enter Tryz.func14, Tryz.ntmps14
    go_wp2
    go_ret
    exact ⟨rfl, Below.refl _ _⟩
end Go.Proofs.YtbokcihlbpeagaaGreatDoor
