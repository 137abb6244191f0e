/-
  What is proved: contract of value's Vars. Conditions: those in each statement.
-/
import Derived.Test.YtnmailhlncchmaaDoorXc
namespace Go.Proofs.YtnmailhlncchmaaDoor
open Go.RowKit

theorem bel_drewN {w w' : World} {B : Nat} (h : Below B w w') (n : Nat) : Below B w (w'.drewN n) := ⟨h.os, h.tape, h.output, h.size, h.block⟩
theorem vars_long {l : List Vr} (h : 16 < l.length) : varsB l = false := by unfold varsB; rw [decide_eq_false (by omega), Bool.false_and]
theorem vars_short {l : List Vr} (h : ¬ 16 < l.length) : varsB l = vsF (prevN l 0) (l.drop 0) := by unfold varsB; rw [decide_eq_true (by omega), Bool.true_and]; rfl
set_option maxHeartbeats 8000000 in
set_option maxRecDepth 100000 in
theorem vars_any (w : World) (A : Option Addr) (n c : Nat) (l : List Vr) (h : HR w A n c l) : Calls Tryd.prog 21 #[.slice A n c] w fun e w' => e = .returned (.bool (varsB l)) ∧ Below w.heap.size w w' := by
  have hln := h.1
  by_cases h16 : 16 < n
  · rw [vars_long (by omega)]
    have hz : (16 : Int) < (n : Int) := by omega
    clear h
    go_enter Tryd.func21, Tryd.ntmps21
    go_wp2
    go_ret
    exact ⟨rfl, Below.refl _ _⟩
  · have HV := Lib.hid (vars_short (l := l) (by omega))
    have hz : ¬ (16 : Int) < (n : Int) := by omega
    have HH := Lib.hid h
    clear h
    go_enter Tryd.func21, Tryd.ntmps21
    go_wp2
    go_loopg [10] n (fun kx v10 wr => ∃ i : Nat, v10 = .int .i64 (i : Int) ∧ i ≤ n ∧ n - i ≤ kx ∧ Hid (varsB l = vsF (prevN l i) (l.drop i)) ∧ Hid (Below w.heap.size w wr))
    case atStart => exact ⟨0, rfl, Nat.zero_le _, Nat.le_refl _, HV, Lib.hid (Below.refl _ _)⟩
    case round =>
      obtain ⟨i, rfl, hi, hkx, HI, HB⟩ := hrel
      by_cases he : i < n
      · have hil : i < l.length := by omega
        obtain ⟨b, o, rfl, hlt, e0, e1, e2, e3⟩ := HH.out.elem i hil
        have d0 := (HB.out.cell (p := ⟨b, o + i * 4, none⟩) hlt).trans e0
        have d1 := (HB.out.cell (p := ⟨b, o + i * 4 + 1, none⟩) hlt).trans e1
        have d2 := (HB.out.cell (p := ⟨b, o + i * 4 + 2, none⟩) hlt).trans e2
        have d3 := (HB.out.cell (p := ⟨b, o + i * 4 + 3, none⟩) hlt).trans e3
        have HON := Lib.hid (HI.out.trans (vsF_on l i hil))
        have HPS := Lib.hid (prev_some l i hil)
        clear e0 e1 e2 e3
        generalize hx : l[i] = x at *
        obtain ⟨nm, k, m, s⟩ := x
        simp only at d0 d1 d2 d3
        have HNM := Lib.hid (fun W => name_any W nm)
        have HMA := Lib.hid (fun W => may_any W k m s)
        cases hnb : nameB nm.data.toList with
        | false =>
          rw [hnb] at HNM
          have HT : Hid (varsB l = false) := Lib.hid (by rw [HON.out, hnb]; rfl)
          clear hnb
          go_wp2_with (go_at_call 14; refine (HNM.out _).mono ?_; rintro e w2 ⟨rfl, rfl⟩)
          go_ret
          exact ⟨by rw [HT.out]; rfl, HB.out.alloc HB.out.size _⟩
        | true =>
          rw [hnb] at HNM
          cases hmb : mayV ⟨k, m, s⟩ with
          | false =>
            rw [hmb] at HMA
            have HT : Hid (varsB l = false) := Lib.hid (by rw [HON.out, hnb, hmb]; rfl)
            clear hnb hmb
            go_wp2_with (first
              | (go_at_call 14; refine (HNM.out _).mono ?_; rintro e w2 ⟨rfl, rfl⟩)
              | (go_at_call 10; refine (HMA.out _).mono ?_; rintro e w3 ⟨rfl, hb3⟩; have HB3 := Lib.hid ((HB.out.alloc HB.out.size (.cells #[.string nm, .int .i64 k, .int .i64 m, .string s] 42 (0, 0))).trans (hb3.mono (by have := HB.out.size; simp; omega))); clear hb3))
            go_ret
            exact ⟨by rw [HT.out]; rfl, HB3.out⟩
          | true =>
            rw [hmb] at HMA
            by_cases hi0 : i = 0
            · have HN : Hid (varsB l = vsF (prevN l (i + 1)) (l.drop (i + 1))) := Lib.hid (by subst hi0; rw [HON.out, hnb, hmb]; rfl)
              clear hnb hmb HI HON HPS
              subst hi0
              rw [Nat.zero_mul, Nat.add_zero] at d0 d1 d2 d3
              go_wp2_with (first
                | (go_at_call 14; refine (HNM.out _).mono ?_; rintro e w2 ⟨rfl, rfl⟩)
                | (go_at_call 10; refine (HMA.out _).mono ?_; rintro e w3 ⟨rfl, hb3⟩; have g0 := box_cell hb3 0 rfl; have HB3 := Lib.hid ((HB.out.alloc HB.out.size (.cells #[.string nm, .int .i64 k, .int .i64 m, .string s] 42 (0, 0))).trans (hb3.mono (by have := HB.out.size; simp; omega))); clear hb3))
              go_region
              go_wp2_with fail
              go_roundg (n - (0 + 1))
              case measure => omega
              case rel => exact ⟨0 + 1, by go_num, by omega, Nat.le_refl _, HN, Lib.hid HB3.out.drew⟩
            · obtain ⟨q, rfl⟩ : ∃ q, i = q + 1 := ⟨i - 1, by omega⟩
              have HP := Lib.hid (HPS.out (by omega))
              have hq : q < l.length := by omega
              have hq1 : (0 : Int) ≤ (q : Int) := by omega
              have hq2 : (q : Int) < (n : Int) := by omega
              have hq3 : q < n := by omega
              have hwq : IntKind.i64.wrap (q : Int) = (q : Int) := by rw [IntKind.wrap_i64]; omega
              obtain ⟨b', o', hbo, _, p0, _⟩ := HH.out.elem q hq
              obtain ⟨rfl, rfl⟩ : b = b' ∧ o = o' := by injection hbo with e; injection e with e1 e2 e3; exact ⟨e1, e2⟩
              clear hbo
              have hpr : (l[q + 1 - 1]'(by omega)) = l[q] := rfl
              rw [hpr] at HP
              generalize l[q].nm = pn at *
              cases hb : bl pn nm with
              | true =>
                have HN : Hid (varsB l = vsF (prevN l (q + 1 + 1)) (l.drop (q + 1 + 1))) := Lib.hid (by rw [HON.out, hnb, hmb, HP.out]; simp only [hb, Bool.true_and])
                unfold bl at hb
                clear hnb hmb HI HON HP HPS
                go_wp2_with (first
                  | (go_at_call 14; refine (HNM.out _).mono ?_; rintro e w2 ⟨rfl, rfl⟩)
                  | (go_at_call 10; refine (HMA.out _).mono ?_; rintro e w3 ⟨rfl, hb3⟩; have g0 := box_cell hb3 0 rfl; have HB3 := Lib.hid ((HB.out.alloc HB.out.size (.cells #[.string nm, .int .i64 k, .int .i64 m, .string s] 42 (0, 0))).trans (hb3.mono (by have := HB.out.size; simp; omega))); have a0 := (HB3.out.cell (p := ⟨b, o + q * 4, none⟩) hlt).trans p0; clear hb3))
                go_quiet (fail)
                go_wp2_with fail
                go_roundg (n - (q + 1 + 1))
                case measure => omega
                case rel => exact ⟨q + 1 + 1, by go_num, by omega, Nat.le_refl _, HN, Lib.hid (bel_drewN HB3.out _)⟩
              | false =>
                have HT : Hid (varsB l = false) := Lib.hid (by rw [HON.out, hnb, hmb, HP.out]; simp only [hb, Bool.true_and, Bool.false_and])
                unfold bl at hb
                clear hnb hmb HI HON HP HPS
                go_wp2_with (first
                  | (go_at_call 14; refine (HNM.out _).mono ?_; rintro e w2 ⟨rfl, rfl⟩)
                  | (go_at_call 10; refine (HMA.out _).mono ?_; rintro e w3 ⟨rfl, hb3⟩; have g0 := box_cell hb3 0 rfl; have HB3 := Lib.hid ((HB.out.alloc HB.out.size (.cells #[.string nm, .int .i64 k, .int .i64 m, .string s] 42 (0, 0))).trans (hb3.mono (by have := HB.out.size; simp; omega))); have a0 := (HB3.out.cell (p := ⟨b, o + q * 4, none⟩) hlt).trans p0; clear hb3))
                go_quiet (fail)
                go_wp2_with fail
                go_ret
                exact ⟨by rw [HT.out]; rfl, bel_drewN HB3.out _⟩
      · have HT : Hid (varsB l = true) := Lib.hid (by rw [HI.out, List.drop_of_length_le (by omega)]; cases prevN l i <;> rfl)
        go_wp2
        go_ret
        exact ⟨by rw [HT.out]; rfl, HB.out⟩
end Go.Proofs.YtnmailhlncchmaaDoor
