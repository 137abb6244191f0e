/-
  What is proved: contract of the document's Print. Conditions: those in each statement.
-/
import Derived.Test.YtnmailhlncchmaaDoorXp
namespace Go.Proofs.YtnmailhlncchmaaDoor
open Go.RowKit

theorem row_below {W0 W w1 : World} {v : Value} {m : Nat} {xs : List Value} {o : Obj} (HB : Below W0.heap.size W0 W) (how : W.ownsRow W0.heap.size 5 1 v m xs) (hg : (W.alloc o).grownBy w1 v.ownBlock) : Below W0.heap.size W0 w1 :=
  (HB.alloc HB.size o).grown hg (by simp; have := HB.size; omega) (fun k hk => (how.lt k hk).1)
theorem cell_in {W0 W : World} {b j : Nat} {u : Value} (HB : Below W0.heap.size W0 W) (hb : b < W0.heap.size) (h : W0.cell? ⟨b, j, none⟩ = some u) : W.cell? ⟨b, j, none⟩ = some u := by
  unfold World.cell? at h ⊢
  simp only [HB.block b hb]
  exact h
set_option maxHeartbeats 8000000 in
set_option maxRecDepth 100000 in
theorem dPrint_any (w : World) (k n : Int) (s : ByteArray) (hn : In64 n) : Calls Tryd.prog 13 #[.agg #[.int .i64 k, .int .i64 n, .string s]] w fun e w' => e = .returned (.string ⟨(prV ⟨k, n, s⟩).toArray⟩) ∧ Below w.heap.size w w' := by
  have HM := Lib.hid (fun W => dMay_any W k n s)
  obtain ⟨W0, hW0⟩ : ∃ W0, W0 = w.alloc (.cells #[.int .i64 k, .int .i64 n, .string s] 23 (0, 0)) := ⟨_, rfl⟩
  have HB0 : Hid (Below w.heap.size w W0) := Lib.hid (by rw [hW0]; exact (Below.refl _ _).alloc (Nat.le_refl _) _)
  have hsz0 : W0.heap.size = w.heap.size + 1 := by rw [hW0]; simp
  have C0 : Hid (W0.cell? ⟨w.heap.size, 0, none⟩ = some (.int .i64 k)) := Lib.hid (by rw [hW0]; exact box_cell (Below.refl _ _) 0 rfl)
  have C1 : Hid (W0.cell? ⟨w.heap.size, 1, none⟩ = some (.int .i64 n)) := Lib.hid (by rw [hW0]; exact box_cell (Below.refl _ _) 1 rfl)
  have C2 : Hid (W0.cell? ⟨w.heap.size, 2, none⟩ = some (.string s)) := Lib.hid (by rw [hW0]; exact box_cell (Below.refl _ _) 2 rfl)
  have HW0 := Lib.hid hW0
  have HSZ := Lib.hid hsz0
  clear hW0
  cases hm : mayV ⟨k, n, s⟩ with
  | false =>
    rw [pr_no hm]
    rw [hm] at HM
    clear hm
    go_enter Tryd.func13, Tryd.ntmps13
    go_wp2_with (go_at_call 11; refine (HM.out _).mono ?_; rintro e w2 ⟨rfl, hb2⟩; rw [← HW0.out] at hb2; have HB2 := Lib.hid (HB0.out.trans (hb2.mono (by omega))); clear hb2)
    go_ret
    exact ⟨rfl, HB2.out⟩
  | true =>
    rw [hm] at HM
    by_cases h1 : k = 1
    · subst h1
      rw [pr_int hm]
      clear hm
      have HD := Lib.hid (fun W => decimal_any W n hn)
      go_enter Tryd.func13, Tryd.ntmps13
      go_wp2_with (first
        | (go_at_call 11; refine (HM.out _).mono ?_; rintro e w2 ⟨rfl, hb2⟩; rw [← HW0.out] at hb2; have c0 := cell_in hb2 (by omega) C0.out; have c1 := cell_in hb2 (by omega) C1.out; have HB2 := Lib.hid (HB0.out.trans (hb2.mono (by omega))); clear hb2)
        | (go_at_call 32; refine (HD.out _).mono ?_; rintro e w3 ⟨rfl, hb3⟩; have HB3 := Lib.hid (HB2.out.trans (hb3.mono HB2.out.size)); clear hb3))
      go_ret
      exact ⟨rfl, HB3.out⟩
    by_cases h2 : k = 2
    · subst h2
      by_cases hn1 : n = 1
      · subst hn1
        rw [pr_true hm]
        clear hm
        go_enter Tryd.func13, Tryd.ntmps13
        go_wp2_with (go_at_call 11; refine (HM.out _).mono ?_; rintro e w2 ⟨rfl, hb2⟩; rw [← HW0.out] at hb2; have c0 := cell_in hb2 (by omega) C0.out; have c1 := cell_in hb2 (by omega) C1.out; have HB2 := Lib.hid (HB0.out.trans (hb2.mono (by omega))); clear hb2)
        go_ret
        exact ⟨rfl, HB2.out⟩
      · rw [pr_false hm hn1]
        clear hm
        have q1 : (n == 1) = false := beq_eq_false_iff_ne.2 hn1
        go_enter Tryd.func13, Tryd.ntmps13
        go_wp2_with (go_at_call 11; refine (HM.out _).mono ?_; rintro e w2 ⟨rfl, hb2⟩; rw [← HW0.out] at hb2; have c0 := cell_in hb2 (by omega) C0.out; have c1 := cell_in hb2 (by omega) C1.out; have HB2 := Lib.hid (HB0.out.trans (hb2.mono (by omega))); clear hb2)
        go_ret
        exact ⟨rfl, HB2.out⟩
    · have hs := may_text hm h1 h2
      have hsz : s.data.toList.length = s.size := size_toList s
      rw [pr_text hm h1 h2]
      clear hm
      have q1 : (k == 1) = false := beq_eq_false_iff_ne.2 h1
      have q2 : (k == 2) = false := beq_eq_false_iff_ne.2 h2
      go_enter Tryd.func13, Tryd.ntmps13
      go_wp2_with (go_at_call 11; refine (HM.out _).mono ?_; rintro e w2 ⟨rfl, hb2⟩; rw [← HW0.out] at hb2; have c0 := cell_in hb2 (by omega) C0.out; have HB2 := Lib.hid hb2; clear hb2)
      go_loopg [3, 4] s.size (fun kx v3 v4 wr => ∃ (i : Nat) (A : Option Addr) (m c : Nat), v4 = .int .i64 (i : Int) ∧ v3 = .slice A m c ∧ i ≤ s.size ∧ s.size - i ≤ kx ∧ m ≤ 200 ∧ Hid (wr.ownsRow W0.heap.size 5 1 (.slice A m c) m (bv (34 :: escV (s.data.toList.take i)))) ∧ Hid (Below W0.heap.size W0 wr))
      case atStart => exact ⟨0, _, 1, _, rfl, rfl, Nat.zero_le _, by omega, by omega, Lib.hid (own_fresh w2 [34] (by simp) HB2.out.size), Lib.hid (HB2.out.alloc HB2.out.size _)⟩
      case round =>
        clear HB2 c0
        obtain ⟨i, A, m, c, rfl, rfl, hi, hkx, hmm, HO, HB⟩ := hrel
        have c2 := cell_in HB.out (by omega) C2.out
        have hm1 : m ≤ 130 := by
          have hl2 := esc_len2 s i
          have := HO.out.1
          simp only [bv_length, List.length_cons] at this
          omega
        by_cases he : i < s.size
        · by_cases hq : s[i].toNat = 34 ∨ s[i].toNat = 92
          · have HN := Lib.hid (esc_on_q s i he hq)
            have q34 : ((s[i].toNat : Int) == 34 || (s[i].toNat : Int) == 92) = true := by
              rcases hq with h | h
              · rw [h]; rfl
              · rw [h]; rfl
            by_cases h34 : s[i].toNat = 34
            all_goals
              first
              | (have p34 : ((s[i].toNat : Int) == 34) = true := beq_iff_eq.2 (by omega))
              | (have p34 : ((s[i].toNat : Int) == 34) = false := beq_eq_false_iff_ne.2 (by omega)
                 have p92 : ((s[i].toNat : Int) == 92) = true := beq_iff_eq.2 (by omega))
              clear hq h34 q34
              go_wp2_with (first
                | (at_builtin; refine wpList_append_hold rfl (.tmp 40) (.tmp 41) rfl W0.heap.size (.slice A m c) m _ rfl (World.ownsRow.alloc HO.out _) (some ⟨wr.heap.size, 0, none⟩) 1 1 [92] rfl (Hold.new wr [92] 5 (0, 0) _ rfl) (by omega) (by have := HB.out.size; simp; omega) ?_; intro A1 c1 w1 hown1 hgrow1; have HB1 := Lib.hid (row_below HB.out HO.out hgrow1); have HO1 := Lib.hid hown1; clear hown1 hgrow1; have c2' := cell_in HB1.out (by omega) C2.out)
                | (at_builtin; refine wpList_append_hold rfl (.tmp 43) (.tmp 48) rfl W0.heap.size (.slice A1 (m + 1) c1) (m + 1) _ rfl (World.ownsRow.alloc HO1.out _) (some ⟨w1.heap.size, 0, none⟩) 1 1 [s[i]] rfl (Hold.new w1 [s[i]] 5 (0, 0) _ rfl) (by omega) (by have := HB1.out.size; simp; omega) ?_; intro A3 c3 w3 hown3 hgrow3; have HB3 := Lib.hid (row_below HB1.out HO1.out hgrow3); have HO3 := Lib.hid hown3; clear hown3 hgrow3))
              go_roundg (s.size - (i + 1))
              case measure => omega
              case rel => exact ⟨i + 1, A3, m + 1 + 1, c3, by go_num, rfl, by omega, Nat.le_refl _, by omega, Lib.hid (by rw [HN.out]; exact HO3.out), HB3⟩
          · have HN := Lib.hid (esc_on_p s i he hq)
            have p34 : ((s[i].toNat : Int) == 34) = false := beq_eq_false_iff_ne.2 (by omega)
            have p92 : ((s[i].toNat : Int) == 92) = false := beq_eq_false_iff_ne.2 (by omega)
            clear hq
            go_wp2_with (at_builtin; refine wpList_append_hold rfl (.tmp 43) (.tmp 48) rfl W0.heap.size (.slice A m c) m _ rfl (World.ownsRow.alloc HO.out _) (some ⟨wr.heap.size, 0, none⟩) 1 1 [s[i]] rfl (Hold.new wr [s[i]] 5 (0, 0) _ rfl) (by omega) (by have := HB.out.size; simp; omega) ?_; intro A3 c3 w3 hown3 hgrow3; have HB3 := Lib.hid (row_below HB.out HO.out hgrow3); have HO3 := Lib.hid hown3; clear hown3 hgrow3)
            go_roundg (s.size - (i + 1))
            case measure => omega
            case rel => exact ⟨i + 1, A3, m + 1, c3, by go_num, rfl, by omega, Nat.le_refl _, by omega, Lib.hid (by rw [HN.out]; exact HO3.out), HB3⟩
        · have hT : s.data.toList.take i = s.data.toList := List.take_of_length_le (by omega)
          rw [hT] at HO
          clear hT
          go_wp2_with (at_builtin; refine wpList_append_hold rfl (.tmp 50) (.tmp 51) rfl W0.heap.size (.slice A m c) m _ rfl (World.ownsRow.alloc HO.out _) (some ⟨wr.heap.size, 0, none⟩) 1 1 [34] rfl (Hold.new wr [34] 5 (0, 0) _ rfl) (by omega) (by have := HB.out.size; simp; omega) ?_; intro A3 c3 w3 hown3 hgrow3; have HB3 := Lib.hid (row_below HB.out HO.out hgrow3); have hcv := conv_hold (Hold.of_own hown3); clear hown3 hgrow3)
          go_ret
          exact ⟨rfl, HB0.out.trans (HB3.out.mono (by omega))⟩
end Go.Proofs.YtnmailhlncchmaaDoor
