/-
  What is proved: contract of the document's flat. Conditions: those in each statement.
-/
import Derived.Test.YtbokcihlbpeagaaGreatDoorNc
namespace Go.Proofs.YtbokcihlbpeagaaGreatDoor
open Go.RowKit

theorem flatV_two (v : Bool) (u : List UInt8) : flatV v (13 :: 10 :: u) = flatV v (10 :: u) := by
  unfold flatV
  rw [flat1_b (by decide : (10 : UInt8) ≠ 13)]
  rfl
theorem flatV_cr (v : Bool) {t : List UInt8} (h : hd t ≠ 10) : flatV v (13 :: t) = bl v 10 :: flatV v t := by unfold flatV; rw [flat1_cr h]; rfl
theorem flatV_b (v : Bool) {b : UInt8} {t : List UInt8} (h : b ≠ 13) : flatV v (b :: t) = bl v b :: flatV v t := by unfold flatV; rw [flat1_b h]; rfl
theorem flatV_len (v : Bool) (l : List UInt8) : (flatV v l).length ≤ l.length := by
  have : ∀ (n : Nat) (l : List UInt8), l.length ≤ n → (flat1 l).length ≤ l.length := by
    intro n
    induction n with
    | zero => intro l h; obtain rfl := List.length_eq_zero_iff.1 (by omega : l.length = 0); simp [flat1]
    | succ n ih =>
      intro l h
      cases l with
      | nil => simp [flat1]
      | cons b t =>
        have ht : t.length ≤ n := by simpa using h
        by_cases hb : b = 13
        · subst hb
          by_cases hc : hd t = 10
          · cases t with
            | nil => exact absurd hc (by decide)
            | cons c u =>
              obtain rfl : c = 10 := UInt8.toNat_inj.1 hc
              have := ih u (by simp at ht; omega)
              show (10 :: flat1 u).length ≤ _
              simp; omega
          · rw [flat1_cr hc]; have := ih t ht; simp; omega
        · rw [flat1_b hb]; have := ih t ht; simp; omega
  unfold flatV
  rw [List.length_map]
  exact this _ l (Nat.le_refl _)
theorem bl_w {b : UInt8} (h : isW b.toNat = true) : bl true b = 32 := by unfold bl; rw [if_pos ⟨rfl, h⟩]
theorem bl_n {b : UInt8} (h : isW b.toNat = false) : bl true b = b := by unfold bl; rw [if_neg (by simp [h])]
theorem bl_f (b : UInt8) : bl false b = b := by unfold bl; rw [if_neg (by simp)]
set_option maxHeartbeats 2000000 in
set_option maxRecDepth 100000 in
theorem dFlat_any (t : ByteArray) (v : Bool) (hs : t.size ≤ 65536) (w : World) :
    Calls Tryz.prog 26 #[.string t, .bool v] w (RowPost w (flatV v t.data.toList)) := by
  obtain ⟨F, hF⟩ : ∃ F, F = flatV v t.data.toList := ⟨_, rfl⟩
  rw [← hF]
  have HF := Lib.hid hF
  clear hF
  go_enter Tryz.func26, Tryz.ntmps26
  go_wp2
  go_loopg [5, 6, 7] t.size (fun kx v5 v6 _ wr => ∃ (i n c : Nat) (A : Option Addr) (l : List UInt8), v5 = .slice A n c ∧ v6 = .int .i64 (i : Int) ∧ i ≤ t.size ∧ n ≤ i ∧ t.size - i ≤ kx ∧ Aside (wr.ownsRow w.heap.size 5 1 (.slice A n c) n (bv l)) ∧ Aside (F = l ++ flatV v (t.data.toList.drop i)) ∧ Aside (Below w.heap.size w wr))
  case atStart => exact ⟨0, 0, 0, none, [], rfl, rfl, Nat.zero_le _, Nat.le_refl _, by omega, (World.ownsRow_nil _ _ _ _ : Aside _), HF.out, (Below.refl _ _ : Aside _)⟩
  case round =>
    obtain ⟨i, n, c, A, l, rfl, rfl, hi, hn, hkx, HO, HI, HB⟩ := hrel
    have pi : (0 : Int) ≤ (i : Int) := by omega
    by_cases hlt : i < t.size
    · have hltz : (i : Int) < (t.size : Int) := by omega
      have hcons := nxAt_cons t i hlt
      have hI : F = l ++ flatV v (t[i] :: t.data.toList.drop (i + 1)) := by rw [← hcons]; exact HI
      have hsz : n + 1 ≤ 140737488355328 := by omega
      clear HI hcons
      by_cases h13 : t[i] = 13
      · have e13 : ((t[i].toNat : Int) == 13) = true := by rw [h13]; rfl
        rw [h13] at hI
        by_cases hnx : i + 1 < t.size ∧ hd (t.data.toList.drop (i + 1)) = 10
        · obtain ⟨h1, h10⟩ := hnx
          have h1z : ((i + 1 : Nat) : Int) < (t.size : Int) := by omega
          have hw : wrap64 ((i : Int) + 1) = ((i + 1 : Nat) : Int) := by rw [Go.IntWalk.wrap64_in _ (by omega)]; push_cast; rfl
          have p1 : (0 : Int) ≤ ((i + 1 : Nat) : Int) := by omega
          have hc1 := nxAt_cons t (i + 1) h1
          rw [hc1] at h10
          have e10 : ((t[i + 1].toNat : Int) == 10) = true := by
            have : t[i + 1].toNat = 10 := h10
            rw [this]; rfl
          have HN : Aside (F = l ++ flatV v (t.data.toList.drop (i + 1))) := by
            show _ = _
            rw [hI, hc1, show t[i + 1] = 10 from UInt8.toNat_inj.1 h10, flatV_two]
          clear hI h10 hc1 h13
          go_wp2
          go_roundg (t.size - (i + 1))
          case measure => omega
          case rel => exact ⟨i + 1, n, c, A, l, rfl, by go_num, hlt, by omega, Nat.le_refl _, HO, HN, HB⟩
        · have hd10 : hd (t.data.toList.drop (i + 1)) ≠ 10 := by
            intro h
            refine hnx ⟨?_, h⟩
            rcases Nat.lt_or_ge (i + 1) t.size with h1 | h1
            · exact h1
            · rw [List.drop_of_length_le (by rw [size_toList]; omega)] at h
              exact absurd h (by decide)
          rw [flatV_cr v hd10] at hI
          have hw : wrap64 ((i : Int) + 1) = ((i + 1 : Nat) : Int) := by rw [Go.IntWalk.wrap64_in _ (by omega)]; push_cast; rfl
          have p1 : (0 : Int) ≤ ((i + 1 : Nat) : Int) := by omega
          have hcs : (¬ ((i + 1 : Nat) : Int) < (t.size : Int)) ∨ ∃ h1 : i + 1 < t.size, ((t[i + 1].toNat : Int) == 10) = false := by
            rcases Nat.lt_or_ge (i + 1) t.size with h1 | h1
            · right
              refine ⟨h1, beq_eq_false_iff_ne.2 fun e => hd10 ?_⟩
              rw [nxAt_cons t (i + 1) h1]
              show t[i + 1].toNat = 10
              omega
            · left; omega
          clear hnx hd10 h13
          rcases hcs with h1z | ⟨h1, e10⟩
          · cases v with
            | false =>
              have HN : Aside (F = (l ++ [10]) ++ flatV false (t.data.toList.drop (i + 1))) := by show _ = _; rw [hI, bl_f]; simp
              clear hI
              go_wp2_with (at_builtin; refine wpList_append_hold rfl (.tmp 36) (.tmp 38) rfl w.heap.size (.slice A n c) n l rfl (World.ownsRow.alloc HO _) (some ⟨wr.heap.size, 0, none⟩) 1 1 [10] rfl (Hold.new wr [10] 5 (0, 0) _ rfl) hsz (by have := (Below.size HB); simp; omega) ?_; intro A1 c1 w1 hown1 hgrow1)
              go_roundg (t.size - (i + 1))
              case measure => omega
              case rel => exact ⟨i + 1, n + 1, c1, A1, l ++ [10], by rfl, by go_num, hlt, by omega, Nat.le_refl _, hown1, HN, ((Below.alloc HB (Below.size HB) _).grown hgrow1 (by have := (Below.size HB); simp; omega) (fun k hk => (World.ownsRow.lt (v := .slice A n c) HO k hk).1) : Aside _)⟩
            | true =>
              have HN : Aside (F = (l ++ [32]) ++ flatV true (t.data.toList.drop (i + 1))) := by show _ = _; rw [hI, bl_w (by rfl)]; simp
              have HWH := Lib.hid (fun W => dWhite_is 10 true rfl W)
              clear hI
              go_wp2_with (first
                | (go_at_call 24; refine (HWH.out _).mono ?_; rintro e w2 ⟨rfl, rfl⟩)
                | (at_builtin; refine wpList_append_hold rfl (.tmp 36) (.tmp 38) rfl w.heap.size (.slice A n c) n l rfl (World.ownsRow.alloc HO _) (some ⟨wr.heap.size, 0, none⟩) 1 1 [32] rfl (Hold.new wr [32] 5 (0, 0) _ rfl) hsz (by have := (Below.size HB); simp; omega) ?_; intro A1 c1 w1 hown1 hgrow1))
              go_roundg (t.size - (i + 1))
              case measure => omega
              case rel => exact ⟨i + 1, n + 1, c1, A1, l ++ [32], by rfl, by go_num, hlt, by omega, Nat.le_refl _, hown1, HN, ((Below.alloc HB (Below.size HB) _).grown hgrow1 (by have := (Below.size HB); simp; omega) (fun k hk => (World.ownsRow.lt (v := .slice A n c) HO k hk).1) : Aside _)⟩
          · have h1z : ((i + 1 : Nat) : Int) < (t.size : Int) := by omega
            cases v with
            | false =>
              have HN : Aside (F = (l ++ [10]) ++ flatV false (t.data.toList.drop (i + 1))) := by show _ = _; rw [hI, bl_f]; simp
              clear hI
              go_wp2_with (at_builtin; refine wpList_append_hold rfl (.tmp 36) (.tmp 38) rfl w.heap.size (.slice A n c) n l rfl (World.ownsRow.alloc HO _) (some ⟨wr.heap.size, 0, none⟩) 1 1 [10] rfl (Hold.new wr [10] 5 (0, 0) _ rfl) hsz (by have := (Below.size HB); simp; omega) ?_; intro A1 c1 w1 hown1 hgrow1)
              go_roundg (t.size - (i + 1))
              case measure => omega
              case rel => exact ⟨i + 1, n + 1, c1, A1, l ++ [10], by rfl, by go_num, hlt, by omega, Nat.le_refl _, hown1, HN, ((Below.alloc HB (Below.size HB) _).grown hgrow1 (by have := (Below.size HB); simp; omega) (fun k hk => (World.ownsRow.lt (v := .slice A n c) HO k hk).1) : Aside _)⟩
            | true =>
              have HN : Aside (F = (l ++ [32]) ++ flatV true (t.data.toList.drop (i + 1))) := by show _ = _; rw [hI, bl_w (by rfl)]; simp
              have HWH := Lib.hid (fun W => dWhite_is 10 true rfl W)
              clear hI
              go_wp2_with (first
                | (go_at_call 24; refine (HWH.out _).mono ?_; rintro e w2 ⟨rfl, rfl⟩)
                | (at_builtin; refine wpList_append_hold rfl (.tmp 36) (.tmp 38) rfl w.heap.size (.slice A n c) n l rfl (World.ownsRow.alloc HO _) (some ⟨wr.heap.size, 0, none⟩) 1 1 [32] rfl (Hold.new wr [32] 5 (0, 0) _ rfl) hsz (by have := (Below.size HB); simp; omega) ?_; intro A1 c1 w1 hown1 hgrow1))
              go_roundg (t.size - (i + 1))
              case measure => omega
              case rel => exact ⟨i + 1, n + 1, c1, A1, l ++ [32], by rfl, by go_num, hlt, by omega, Nat.le_refl _, hown1, HN, ((Below.alloc HB (Below.size HB) _).grown hgrow1 (by have := (Below.size HB); simp; omega) (fun k hk => (World.ownsRow.lt (v := .slice A n c) HO k hk).1) : Aside _)⟩
      · have e13 : ((t[i].toNat : Int) == 13) = false := beq_eq_false_iff_ne.2 (fun e => h13 (UInt8.toNat_inj.1 (by show t[i].toNat = 13; omega)))
        rw [flatV_b v h13] at hI
        cases v with
        | false =>
          have HN : Aside (F = (l ++ [t[i]]) ++ flatV false (t.data.toList.drop (i + 1))) := by show _ = _; rw [hI, bl_f]; simp
          clear hI h13
          go_wp2_with (at_builtin; refine wpList_append_hold rfl (.tmp 36) (.tmp 38) rfl w.heap.size (.slice A n c) n l rfl (World.ownsRow.alloc HO _) (some ⟨wr.heap.size, 0, none⟩) 1 1 [t[i]] rfl (Hold.new wr [t[i]] 5 (0, 0) _ rfl) hsz (by have := (Below.size HB); simp; omega) ?_; intro A1 c1 w1 hown1 hgrow1)
          go_roundg (t.size - (i + 1))
          case measure => omega
          case rel => exact ⟨i + 1, n + 1, c1, A1, l ++ [t[i]], by rfl, by go_num, hlt, by omega, Nat.le_refl _, hown1, HN, ((Below.alloc HB (Below.size HB) _).grown hgrow1 (by have := (Below.size HB); simp; omega) (fun k hk => (World.ownsRow.lt (v := .slice A n c) HO k hk).1) : Aside _)⟩
        | true =>
          cases hwb : isW t[i].toNat with
          | true =>
            have HN : Aside (F = (l ++ [32]) ++ flatV true (t.data.toList.drop (i + 1))) := by show _ = _; rw [hI, bl_w hwb]; simp
            have HWH := Lib.hid (fun W => dWhite_is t[i].toNat true hwb.symm W)
            clear hI h13 hwb
            go_wp2_with (first
              | (go_at_call 24; refine (HWH.out _).mono ?_; rintro e w2 ⟨rfl, rfl⟩)
              | (at_builtin; refine wpList_append_hold rfl (.tmp 36) (.tmp 38) rfl w.heap.size (.slice A n c) n l rfl (World.ownsRow.alloc HO _) (some ⟨wr.heap.size, 0, none⟩) 1 1 [32] rfl (Hold.new wr [32] 5 (0, 0) _ rfl) hsz (by have := (Below.size HB); simp; omega) ?_; intro A1 c1 w1 hown1 hgrow1))
            go_roundg (t.size - (i + 1))
            case measure => omega
            case rel => exact ⟨i + 1, n + 1, c1, A1, l ++ [32], by rfl, by go_num, hlt, by omega, Nat.le_refl _, hown1, HN, ((Below.alloc HB (Below.size HB) _).grown hgrow1 (by have := (Below.size HB); simp; omega) (fun k hk => (World.ownsRow.lt (v := .slice A n c) HO k hk).1) : Aside _)⟩
          | false =>
            have HN : Aside (F = (l ++ [t[i]]) ++ flatV true (t.data.toList.drop (i + 1))) := by show _ = _; rw [hI, bl_n hwb]; simp
            have HWH := Lib.hid (fun W => dWhite_is t[i].toNat false hwb.symm W)
            clear hI h13 hwb
            go_wp2_with (first
              | (go_at_call 24; refine (HWH.out _).mono ?_; rintro e w2 ⟨rfl, rfl⟩)
              | (at_builtin; refine wpList_append_hold rfl (.tmp 36) (.tmp 38) rfl w.heap.size (.slice A n c) n l rfl (World.ownsRow.alloc HO _) (some ⟨wr.heap.size, 0, none⟩) 1 1 [t[i]] rfl (Hold.new wr [t[i]] 5 (0, 0) _ rfl) hsz (by have := (Below.size HB); simp; omega) ?_; intro A1 c1 w1 hown1 hgrow1))
            go_roundg (t.size - (i + 1))
            case measure => omega
            case rel => exact ⟨i + 1, n + 1, c1, A1, l ++ [t[i]], by rfl, by go_num, hlt, by omega, Nat.le_refl _, hown1, HN, ((Below.alloc HB (Below.size HB) _).grown hgrow1 (by have := (Below.size HB); simp; omega) (fun k hk => (World.ownsRow.lt (v := .slice A n c) HO k hk).1) : Aside _)⟩
    · obtain rfl : i = t.size := by omega
      have hltz : ¬ (t.size : Int) < (t.size : Int) := by omega
      have HE : Hid (F = l) := Lib.hid (by
        have h1 : F = l ++ flatV v (t.data.toList.drop t.size) := HI
        rw [List.drop_of_length_le (by rw [size_toList]; omega)] at h1
        rw [h1]
        show l ++ (flat1 []).map _ = l
        simp [flat1])
      have HH := Lib.hid (Hold.of_own (show wr.ownsRow w.heap.size 5 1 (.slice A n c) n (bv l) from HO))
      clear HI HO
      go_wp2
      go_ret
      exact ⟨A, n, c, rfl, by rw [HE.out]; exact HH.out, HB⟩
end Go.Proofs.YtbokcihlbpeagaaGreatDoor
