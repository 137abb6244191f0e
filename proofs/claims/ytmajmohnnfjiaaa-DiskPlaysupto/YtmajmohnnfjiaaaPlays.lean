/-
  What is proved: the walk of the law DiskPlays: for every number of sectors and every script it returns true and turns nothing that was there. Conditions: the script's length, and the lengths of what it holds, are within the statement's bound.
-/
import Derived.Test.YtmajmohnnfjiaaaSame
import Derived.Test.YtmajmohnnfjiaaaLasts
import Derived.Test.YtmajmohnnfjiaaaKeeps
namespace Go.Proofs.Ytmajmohnnfjiaaa
open Go.RowKit

theorem var_cells {w : World} {k : Nat} {x0 x1 x2 x3 : Value} (h : w.heap[k]? = some (.cells #[x0, x1, x2, x3] 30 (0, 0))) : w.cell? ⟨k, 0, none⟩ = some x0 ∧ w.cell? ⟨k, 1, none⟩ = some x1 ∧ w.cell? ⟨k, 2, none⟩ = some x2 ∧ w.cell? ⟨k, 3, none⟩ = some x3 := by
  refine ⟨?_, ?_, ?_, ?_⟩
  · rw [cell_of_row w k 0 _ 30 (0, 0) h]; rfl
  · rw [cell_of_row w k 1 _ 30 (0, 0) h]; rfl
  · rw [cell_of_row w k 2 _ 30 (0, 0) h]; rfl
  · rw [cell_of_row w k 3 _ 30 (0, 0) h]; rfl
theorem fSt_len (s : D) : s.fSt.buf.length ≤ s.buf.length := by
  unfold D.fSt
  split
  · exact Nat.le_refl _
  · simp
theorem armed_buf (s : D) (n : Int) : (s.aSt n).buf = s.buf := by unfold D.aSt; split <;> rfl
section
variable {w0 w : World} {g m c : Nat} {s sr sc : D} {u : Nat}
theorem pm_clone (h : PM w0 w g m s sr u) (hb : s.buf.length ≤ 1048576) : Calls Try.prog 19 #[.pointer (some ⟨g, 0, none⟩)] w fun e w' => ∃ c, e = .returned (.pointer (some ⟨c, 0, none⟩)) ∧ Two w0 w' g s c s ∧ RMine w0 w' m sr u ∧ Oth w w' := by
  obtain ⟨⟨L, q, hd, hb0, hf⟩, hr⟩ := h
  refine (clone_any w g L q s hd (by omega)).mono ?_
  rintro e w' ⟨v, rfl, ⟨c, Lc, qc, rfl, hdc, hfc⟩, hb⟩
  refine ⟨c, rfl, ⟨L, q, Lc, qc, hd.below hb, hdc, fun b h1 h2 => ?_, hb0.trans (hb.mono hb0.size), hf, fun b hb' => ?_⟩, hr.below hb, Oth.below hb⟩
  · have := hd.lt b h1
    have := hfc b h2
    omega
  · have := hfc b hb'
    have := hb0.size
    omega
theorem pm_two_write (h : Two w0 w g s c sc) (hr : RMine w0 w m sr u) (i : Int) (A : Option Addr) (n cp : Nat) (l : List UInt8) (hl : Hold w A n cp l) (hn : n ≤ 281474976710656) (hb : s.buf.length ≤ 1048577) :
    Calls Try.prog 11 #[.pointer (some ⟨g, 0, none⟩), .int .i64 i, .slice A n cp] w fun e w' => e = .returned (.int .i64 (s.wErr i n)) ∧ Two w0 w' g (s.wSt i l) c sc ∧ RMine w0 w' m sr u ∧ Oth w w' := by
  obtain ⟨L, q, Lc, qc, h1, h2, h3, h4, h5, h6⟩ := h
  refine (write_any w g L q s h1 i A n cp l hl hn (by omega)).mono ?_
  rintro e w' ⟨e1, e2⟩
  have hA := Mine.after h1 h4 h5 e2
  have hT := Two.after h2 h3 h4 h5 h6 e2
  obtain ⟨q', hd', hc, hq⟩ := e2
  exact ⟨e1, hT, keepR h1 hc hr hA.1.b, oth_disk h1 hc⟩
theorem pm_two_flush (h : Two w0 w g s c sc) (hr : RMine w0 w m sr u) (hb : s.buf.length ≤ 1048577) :
    Calls Try.prog 13 #[.pointer (some ⟨g, 0, none⟩)] w fun e w' => e = .returned (.int .i64 s.fErr) ∧ Two w0 w' g s.fSt c sc ∧ RMine w0 w' m sr u ∧ Oth w w' := by
  obtain ⟨L, q, Lc, qc, h1, h2, h3, h4, h5, h6⟩ := h
  refine (flush_any w g L q s h1 (by omega)).mono ?_
  rintro e w' ⟨e1, e2⟩
  have hA := Mine.after h1 h4 h5 e2
  have hT := Two.after h2 h3 h4 h5 h6 e2
  obtain ⟨q', hd', hc, hq⟩ := e2
  exact ⟨e1, hT, keepR h1 hc hr hA.1.b, oth_disk h1 hc⟩
end
/-- what the operations of the two Writes' line yield -/
def p1F (g m ko : Nat) (oi : Int) (A2 : Option Addr) (n2 c2 : Nat) (er : Int) : Nat → Value → Prop
  | 0, v => v = .pointer (some ⟨g, 0, none⟩)
  | 6, v => v = .pointer (some ⟨m, 0, none⟩)
  | 1, v | 7, v => v = .pointer (some ⟨ko, 1, none⟩)
  | 3, v | 9, v => v = .pointer (some ⟨ko, 3, none⟩)
  | 2, v | 8, v => v = .int .i64 oi
  | 4, v | 10, v => v = .slice A2 n2 c2
  | 5, v | 11, v => v = .int .i64 er
  | _, v => v = .bool false
/-- where the two disks are, by which of the two Writes has come up -/
def p1J (w0 : World) (g m : Nat) (s s' : D) (u ko : Nat) (C : Array Value) (ls : Nat → Bool) (_ : Act) (w : World) : Prop :=
  PM w0 w g m (if ls 5 = true then s' else s) (if ls 11 = true then s' else s) u ∧ w.heap[ko]? = some (.cells C 30 (0, 0))
section
variable {w0 w w' : World} {g m ko u : Nat} {s s' : D} {C : Array Value} {ls : Nat → Bool} {a : Act}
theorem p1J.pure (h : p1J w0 g m s s' u ko C ls a w) {i : Nat} (hi : i ≠ 5 ∧ i ≠ 11) (a' : Act) : p1J w0 g m s s' u ko C (updB ls i) a' w := by
  unfold p1J at *
  rw [updB_other ls (Ne.symm hi.1), updB_other ls (Ne.symm hi.2)]
  exact h
theorem p1J.five (h : p1J w0 g m s s' u ko C ls a w) (h5 : ls 5 = false) : PM w0 w g m s (if ls 11 = true then s' else s) u := by
  simpa [h5] using h.1
theorem p1J.eleven (h : p1J w0 g m s s' u ko C ls a w) (h11 : ls 11 = false) : PM w0 w g m (if ls 5 = true then s' else s) s u := by
  simpa [h11] using h.1
theorem p1J.set5 (h : p1J w0 g m s s' u ko C ls a w) (_ : ls 5 = false) (h2 : PM w0 w' g m s' (if ls 11 = true then s' else s) u) (ho : Oth w w') (a' : Act) : p1J w0 g m s s' u ko C (updB ls 5) a' w' := by
  refine ⟨?_, ho _ _ _ _ h.2 (by decide) (by decide) (by decide) (by decide) (by decide)⟩
  rw [updB_at, if_pos rfl, updB_other ls (by decide)]
  exact h2
theorem p1J.set11 (h : p1J w0 g m s s' u ko C ls a w) (_ : ls 11 = false) (h2 : PM w0 w' g m (if ls 5 = true then s' else s) s' u) (ho : Oth w w') (a' : Act) : p1J w0 g m s s' u ko C (updB ls 11) a' w' := by
  refine ⟨?_, ho _ _ _ _ h.2 (by decide) (by decide) (by decide) (by decide) (by decide)⟩
  rw [updB_at, if_pos rfl, updB_other ls (by decide)]
  exact h2
end

set_option maxRecDepth 100000 in
set_option maxHeartbeats 4000000 in
theorem diskPlays_walk (n : Int) (B : Option Addr) (N C : Nat) (os : List OpR) (w : World) (ho : Ops w B N os) (hN : N ≤ 1048576) :
    Calls Try.prog 3 #[.int .i64 n, .slice B N C] w fun e w' => e = .returned (.bool true) ∧ Below w.heap.size w w' := by
  have HO := Lib.hid ho
  clear ho
  have kc := fun (w : World) (C : Array Value) (n c : Nat) => Lib.run_convert_bytes_const (P := Try.prog) w 28 5 C n c Try.underlying28 Try.underlying5
  go_enter Try.func3, Try.ntmps3
  go_wp2_with fail
  refine (new_mine w w n (Below.refl _ _)).mono ?_
  rintro e w1 ⟨g0, rfl, h1, hb1, _⟩
  have H1 := Lib.hid h1
  have HB1 := Lib.hid hb1
  clear h1 hb1
  go_wp2_with fail
  refine (rnew_any w1 n).mono ?_
  rintro e w2 ⟨m, mp, rfl, hrk, hb2, hm2, hmp2⟩
  have HP2 : Hid (PM w w2 g0 m (newSt (newN n)) (newSt (newN n)) 0) := ⟨H1.out.below hb2, mp, none, [], hrk, H1.out.b.trans (hb2.mono H1.out.b.size), by
    have := H1.out.b.size
    rintro b (rfl | rfl | h)
    · omega
    · omega
    · cases h⟩
  clear hrk hb2 hm2 hmp2 H1 HB1
  go_wp2_with fail
  refine (awake_any w2).mono ?_
  rintro e w3 ⟨rfl, hb3⟩
  have HP3 := Lib.hid (HP2.out.below hb3)
  clear HP2 hb3
  have hb0 : (newSt (newN n)).buf.length ≤ 0 := by simp [newSt]
  generalize newSt (newN n) = s0 at *
  go_wp2_with fail
  go_loopw [5, 7] (fun d i wr => ∃ (k g : Nat) (s : D) (u : Nat), k ≤ N ∧ i = .int .i64 (k : Int) ∧ d = .pointer (some ⟨g, 0, none⟩) ∧ PM w wr g m s s u ∧ s.buf.length ≤ k ∧ u ≤ k * 2097154) (fun _ i _ => N - (intOf i).toNat)
  case atStart => exact ⟨0, g0, s0, 0, by omega, rfl, rfl, HP3.out, by omega, by omega⟩
  case round =>
    obtain ⟨k, g, s, u, hk, rfl, rfl, hP, hbk, huk⟩ := hrel
    have HP := Lib.hid hP
    have huk1 : u ≤ (k + 1) * 2097154 := Nat.le_trans huk (Nat.mul_le_mul_right _ (Nat.le_succ k))
    have huk2 : u + 1048577 ≤ (k + 1) * 2097154 := by rw [Nat.succ_mul]; exact Nat.add_le_add huk (by decide)
    clear hP HP3 hb0
    by_cases hlt : k < N
    · obtain ⟨b, off, o, rfl, hrg, hok⟩ := HO.out.at (Below.refl _ _) hlt
      obtain ⟨kd, oi, nn, A2, n2, c2, l2⟩ := o
      have hrg' := range_later hrg HP.out.1.b
      have HRG : Hid (wr.rangeAt b (off + k * 4) [.int .i64 kd, .int .i64 oi, .int .i64 nn, .slice A2 n2 c2]) := hrg'
      have HK := Lib.hid hok
      have hi1 := hok.i1
      have hi2 := hok.i2
      have hn1 := hok.n1
      have hn2 := hok.n2
      have hsz := hok.size
      simp only at hi1 hi2 hn1 hn2 hsz
      have hk0 : (0 : Int) ≤ (k : Int) := Int.natCast_nonneg _
      have hk1 : (k : Int) < (N : Int) := by omega
      have HI30 : Hid ((Try.prog.info? 30).map (·.size) = some [Value.int .i64 kd, .int .i64 oi, .int .i64 nn, .slice A2 n2 c2].length) := Try.size30
      clear hrg hrg' hok
      by_cases k1e : kd = 1
      · subst k1e
        have HP0 := Lib.hid (HP.out.below ((Below.refl _ _).alloc (Nat.le_refl _) (.cells #[.int .i64 1, .int .i64 oi, .int .i64 nn, .slice A2 n2 c2] 30)))
        have HV0 : Hid ((wr.alloc (.cells #[.int .i64 1, .int .i64 oi, .int .i64 nn, .slice A2 n2 c2] 30)).heap[wr.heap.size]? = some (.cells #[.int .i64 1, .int .i64 oi, .int .i64 nn, .slice A2 n2 c2] 30 (0, 0))) := heap_alloc_new wr _
        have HA2 := Lib.hid (HK.out.hold.below HP0.out.1.b)
        simp only at HA2
        go_wp2_with (with_reducible refine wpList_load_mid rfl 30 (.tmp 32) rfl b (off + k * 4) rfl [.int .i64 1, .int .i64 oi, .int .i64 nn, .slice A2 n2 c2] _ HRG.out Try.underlying30 rfl HI30.out ?_)
        refine wp_region_stepsA (p1F g m wr.heap.size oi A2 n2 c2 (s.wErr oi n2)) (p1J w g m s (s.wSt oi l2) u wr.heap.size #[.int .i64 1, .int .i64 oi, .int .i64 nn, .slice A2 n2 c2]) (by kernel_rfl) (by kernel_rfl) ⟨HP0.out.below ((Below.refl _ _).drew), HV0.out⟩ ?_ ?_
        · refine ⟨?_, ?_, ?_, ?_, ?_, ?_, ?_, ?_, ?_, ?_, ?_, ?_, ?_, trivial⟩
          · intro a W ls hJ hi hcl hd hoff hf
            left
            refine ⟨rfl, ?_⟩
            have e0 : a.tmps.getD 5 undef = .pointer (some ⟨g, 0, none⟩) := hoff.slot 5 (no_dst (by kernel_rfl))
            go_simp
            exact ⟨_, rfl, rfl, hJ.pure (by decide) _⟩
          · intro a W ls hJ hi hcl hd hoff hf
            left
            refine ⟨rfl, ?_⟩
            have e0 : a.tmps.getD 8 undef = .pointer (some ⟨wr.heap.size, 0, none⟩) := hoff.slot 8 (no_dst (by kernel_rfl))
            go_simp
            exact ⟨_, rfl, rfl, hJ.pure (by decide) _⟩
          · intro a W ls hJ hi hcl hd hoff hf
            left
            refine ⟨rfl, ?_⟩
            have e0 : a.tmps.getD 39 undef = .pointer (some ⟨wr.heap.size, 1, none⟩) := hf 1 _ (hd 1 rfl) rfl
            obtain ⟨cv0, cv1, cv2, cv3⟩ := var_cells hJ.2
            go_simp
            exact ⟨_, rfl, rfl, hJ.pure (by decide) _⟩
          · intro a W ls hJ hi hcl hd hoff hf
            left
            refine ⟨rfl, ?_⟩
            have e0 : a.tmps.getD 8 undef = .pointer (some ⟨wr.heap.size, 0, none⟩) := hoff.slot 8 (no_dst (by kernel_rfl))
            go_simp
            exact ⟨_, rfl, rfl, hJ.pure (by decide) _⟩
          · intro a W ls hJ hi hcl hd hoff hf
            left
            refine ⟨rfl, ?_⟩
            have e0 : a.tmps.getD 41 undef = .pointer (some ⟨wr.heap.size, 3, none⟩) := hf 3 _ (hd 3 rfl) rfl
            obtain ⟨cv0, cv1, cv2, cv3⟩ := var_cells hJ.2
            go_simp
            exact ⟨_, rfl, rfl, hJ.pure (by decide) _⟩
          · intro a W ls hJ hi hcl hd hoff hf
            left
            refine ⟨rfl, ?_⟩
            have e0 : a.tmps.getD 38 undef = .pointer (some ⟨g, 0, none⟩) := hf 0 _ (hd 0 rfl) rfl
            have e1 : a.tmps.getD 40 undef = .int .i64 oi := hf 2 _ (hd 2 rfl) rfl
            have e2 : a.tmps.getD 42 undef = .slice A2 n2 c2 := hf 4 _ (hd 4 rfl) rfl
            have HJ := Lib.hid hJ
            clear hJ
            go_simp
            refine (pm_write (HJ.out.five hi) oi A2 n2 c2 l2 (HK.out.hold.below HJ.out.1.1.b) (by omega) (by omega)).mono ?_
            rintro e W2 ⟨rfl, h2, o2⟩
            exact ⟨_, rfl, rfl, HJ.out.set5 hi h2 o2 _⟩
          · intro a W ls hJ hi hcl hd hoff hf
            left
            refine ⟨rfl, ?_⟩
            have e0 : a.tmps.getD 6 undef = .pointer (some ⟨m, 0, none⟩) := hoff.slot 6 (no_dst (by kernel_rfl))
            go_simp
            exact ⟨_, rfl, rfl, hJ.pure (by decide) _⟩
          · intro a W ls hJ hi hcl hd hoff hf
            left
            refine ⟨rfl, ?_⟩
            have e0 : a.tmps.getD 8 undef = .pointer (some ⟨wr.heap.size, 0, none⟩) := hoff.slot 8 (no_dst (by kernel_rfl))
            go_simp
            exact ⟨_, rfl, rfl, hJ.pure (by decide) _⟩
          · intro a W ls hJ hi hcl hd hoff hf
            left
            refine ⟨rfl, ?_⟩
            have e0 : a.tmps.getD 45 undef = .pointer (some ⟨wr.heap.size, 1, none⟩) := hf 7 _ (hd 7 rfl) rfl
            obtain ⟨cv0, cv1, cv2, cv3⟩ := var_cells hJ.2
            go_simp
            exact ⟨_, rfl, rfl, hJ.pure (by decide) _⟩
          · intro a W ls hJ hi hcl hd hoff hf
            left
            refine ⟨rfl, ?_⟩
            have e0 : a.tmps.getD 8 undef = .pointer (some ⟨wr.heap.size, 0, none⟩) := hoff.slot 8 (no_dst (by kernel_rfl))
            go_simp
            exact ⟨_, rfl, rfl, hJ.pure (by decide) _⟩
          · intro a W ls hJ hi hcl hd hoff hf
            left
            refine ⟨rfl, ?_⟩
            have e0 : a.tmps.getD 47 undef = .pointer (some ⟨wr.heap.size, 3, none⟩) := hf 9 _ (hd 9 rfl) rfl
            obtain ⟨cv0, cv1, cv2, cv3⟩ := var_cells hJ.2
            go_simp
            exact ⟨_, rfl, rfl, hJ.pure (by decide) _⟩
          · intro a W ls hJ hi hcl hd hoff hf
            left
            refine ⟨rfl, ?_⟩
            have e0 : a.tmps.getD 44 undef = .pointer (some ⟨m, 0, none⟩) := hf 6 _ (hd 6 rfl) rfl
            have e1 : a.tmps.getD 46 undef = .int .i64 oi := hf 8 _ (hd 8 rfl) rfl
            have e2 : a.tmps.getD 48 undef = .slice A2 n2 c2 := hf 10 _ (hd 10 rfl) rfl
            have HJ := Lib.hid hJ
            clear hJ
            go_simp
            refine (pm_rwrite (HJ.out.eleven hi) oi A2 n2 c2 l2 (HK.out.hold.below HJ.out.1.1.b) (by omega)).mono ?_
            rintro e W2 ⟨rfl, h2, o2⟩
            exact ⟨_, rfl, rfl, HJ.out.set11 hi h2 o2 _⟩
          · intro a W ls hJ hi hcl hd hoff hf
            left
            refine ⟨rfl, ?_⟩
            have e0 : a.tmps.getD 43 undef = .int .i64 (s.wErr oi n2) := hf 5 _ (hd 5 rfl) rfl
            have e1 : a.tmps.getD 49 undef = .int .i64 (s.wErr oi n2) := hf 11 _ (hd 11 rfl) rfl
            go_simp
            exact ⟨_, rfl, rfl, hJ.pure (by decide) _⟩
        · intro a W ls hl2 hJ hoff hf
          have e50 : a.tmps.getD 50 undef = .bool false := hf 12 _ rfl
          have hJ1 : PM w W g m (s.wSt oi l2) (s.wSt oi l2) u := by
            have := hJ.1
            rw [if_pos (hl2 5 (by decide)), if_pos (hl2 11 (by decide))] at this
            exact this
          have HV := Lib.hid hJ.2
          clear HP HP0 HV0
          have HP := Lib.hid hJ1
          obtain ⟨ys, hys, ha⟩ := off_form hoff (mask := [false, false, false, false, false, false, false, false, false, false, false, false, false, false, false, false, false, false, false, false, false, false, false, false, false, false, false, false, false, false, false, false, false, false, false, false, false, false, true, true, true, true, true, true, true, true, true, true, true, true, true, false, false, false, false, false, false, false, false, false, false, false, false, false, false, false, false, false, false, false, false, false, false, false, false, false, false, false, false, false, false, false, false, false, false, false, false, false, false, false, false, false, false, false, false, false, false, false, false, false, false, false, false, false, false, false, false, false, false, false, false, false, false, false, false, false, false, false, false, false, false, false, false]) (by kernel_rfl)
          rw [hys] at e50
          clear hf hoff hys hJ hJ1 hl2
          subst ha
          simp only [fillFrom, Nat.zero_add, Nat.reduceAdd, e50]
          have hbl2 := wSt_len s oi l2
          obtain ⟨cv0, cv1, cv2, cv3⟩ := var_cells HV.out
          go_wp2_with fail
          refine (read_same HP.out.1 oi (by omega)).mono ?_
          rintro e y1 ⟨v1, rfl, A3, n3, c3, l3, rfl, hh3, hl3, hb3⟩
          have HH3 := Lib.hid hh3
          have HL3 := Lib.hid hl3
          have HP1 := Lib.hid (HP.out.below hb3)
          have HV1 : Hid (y1.heap[wr.heap.size]? = some (.cells #[.int .i64 1, .int .i64 oi, .int .i64 nn, .slice A2 n2 c2] 30 (0, 0))) := (hb3.block _ (Array.getElem?_eq_some_iff.1 HV.out).1).trans HV.out
          clear hh3 hl3 hb3 cv0 cv1 cv2 cv3 HP HV
          obtain ⟨cw0, cw1, cw2, cw3⟩ := var_cells HV1.out
          go_wp2_with fail
          refine (rread_same HP1.out.2 oi (by omega)).mono ?_
          rintro e y2 ⟨v2, rfl, A5, n5, c5, l5, rfl, hh5, hl5, hb5⟩
          have ct3 := conv_hold (HH3.out.below hb5)
          have ct5 := conv_hold hh5
          rw [hl5, ← HL3.out] at ct5
          have HP2 := Lib.hid (HP1.out.below hb5)
          clear hh5 hl5 hb5 HH3 HL3 HP1 HV1 cw0 cw1 cw2 cw3
          go_wp2_with fail
          refine (same_any w _ g m _ _ HP2.out (by omega)).mono ?_
          rintro e y3 ⟨rfl, hb6⟩
          have HP3 := Lib.hid (HP2.out.below hb6)
          clear hb6 HP2 ct3 ct5
          go_wp2_with fail
          go_roundw
          case rel => exact ⟨k + 1, g, (s.wSt oi l2), u, by omega, by go_num, rfl, HP3.out, by omega, huk1⟩
          case measure => simp [intOf]; omega
      by_cases k2e : kd = 2
      · subst k2e
        have HP0 := Lib.hid (HP.out.below ((Below.refl _ _).alloc (Nat.le_refl _) (.cells #[.int .i64 2, .int .i64 oi, .int .i64 nn, .slice A2 n2 c2] 30)))
        have HV0 : Hid ((wr.alloc (.cells #[.int .i64 2, .int .i64 oi, .int .i64 nn, .slice A2 n2 c2] 30)).heap[wr.heap.size]? = some (.cells #[.int .i64 2, .int .i64 oi, .int .i64 nn, .slice A2 n2 c2] 30 (0, 0))) := heap_alloc_new wr _
        have HA2 := Lib.hid (HK.out.hold.below HP0.out.1.b)
        simp only at HA2
        go_wp2_with (with_reducible refine wpList_load_mid rfl 30 (.tmp 32) rfl b (off + k * 4) rfl [.int .i64 2, .int .i64 oi, .int .i64 nn, .slice A2 n2 c2] _ HRG.out Try.underlying30 rfl HI30.out ?_)
        refine (pm_flush HP0.out (by omega)).mono ?_
        rintro e x1 ⟨rfl, h1, o1⟩
        have HP1 := Lib.hid h1
        have HV1 := Lib.hid (o1 _ _ _ _ HV0.out (by decide) (by decide) (by decide) (by decide) (by decide))
        clear h1 o1 HP0 HV0 HP
        obtain ⟨cu0, cu1, cu2, cu3⟩ := var_cells HV1.out
        go_wp2_with fail
        refine (pm_rflush HP1.out (by omega) (by omega)).mono ?_
        rintro e x2 ⟨rfl, h2, o2⟩
        have HP := Lib.hid h2
        have HV := Lib.hid (o2 _ _ _ _ HV1.out (by decide) (by decide) (by decide) (by decide) (by decide))
        clear h2 o2 HP1 HV1 cu0 cu1 cu2 cu3
        obtain ⟨cv0, cv1, cv2, cv3⟩ := var_cells HV.out
        go_wp2_with fail
        refine (read_same HP.out.1 oi (by have := fSt_len s; omega)).mono ?_
        rintro e y1 ⟨v1, rfl, A3, n3, c3, l3, rfl, hh3, hl3, hb3⟩
        have HH3 := Lib.hid hh3
        have HL3 := Lib.hid hl3
        have HP1 := Lib.hid (HP.out.below hb3)
        have HV1 : Hid (y1.heap[wr.heap.size]? = some (.cells #[.int .i64 2, .int .i64 oi, .int .i64 nn, .slice A2 n2 c2] 30 (0, 0))) := (hb3.block _ (Array.getElem?_eq_some_iff.1 HV.out).1).trans HV.out
        clear hh3 hl3 hb3 cv0 cv1 cv2 cv3 HP HV
        obtain ⟨cw0, cw1, cw2, cw3⟩ := var_cells HV1.out
        go_wp2_with fail
        refine (rread_same HP1.out.2 oi (by have := fSt_len s; omega)).mono ?_
        rintro e y2 ⟨v2, rfl, A5, n5, c5, l5, rfl, hh5, hl5, hb5⟩
        have ct3 := conv_hold (HH3.out.below hb5)
        have ct5 := conv_hold hh5
        rw [hl5, ← HL3.out] at ct5
        have HP2 := Lib.hid (HP1.out.below hb5)
        clear hh5 hl5 hb5 HH3 HL3 HP1 HV1 cw0 cw1 cw2 cw3
        go_wp2_with fail
        refine (same_any w _ g m _ _ HP2.out (by have := fSt_len s; omega)).mono ?_
        rintro e y3 ⟨rfl, hb6⟩
        have HP3 := Lib.hid (HP2.out.below hb6)
        clear hb6 HP2 ct3 ct5
        go_wp2_with fail
        go_roundw
        case rel => exact ⟨k + 1, g, s.fSt, (u + 1048577), by omega, by go_num, rfl, HP3.out, (by have := fSt_len s; omega), huk2⟩
        case measure => simp [intOf]; omega
      by_cases k3e : kd = 3
      · subst k3e
        have HP0 := Lib.hid (HP.out.below ((Below.refl _ _).alloc (Nat.le_refl _) (.cells #[.int .i64 3, .int .i64 oi, .int .i64 nn, .slice A2 n2 c2] 30)))
        have HV0 : Hid ((wr.alloc (.cells #[.int .i64 3, .int .i64 oi, .int .i64 nn, .slice A2 n2 c2] 30)).heap[wr.heap.size]? = some (.cells #[.int .i64 3, .int .i64 oi, .int .i64 nn, .slice A2 n2 c2] 30 (0, 0))) := heap_alloc_new wr _
        have HA2 := Lib.hid (HK.out.hold.below HP0.out.1.b)
        simp only at HA2
        go_wp2_with (with_reducible refine wpList_load_mid rfl 30 (.tmp 32) rfl b (off + k * 4) rfl [.int .i64 3, .int .i64 oi, .int .i64 nn, .slice A2 n2 c2] _ HRG.out Try.underlying30 rfl HI30.out ?_)
        refine (pm_arm HP0.out nn hn1 hn2).mono ?_
        rintro e x1 ⟨rfl, h1, o1⟩
        have HP1 := Lib.hid h1
        have HV1 := Lib.hid (o1 _ _ _ _ HV0.out (by decide) (by decide) (by decide) (by decide) (by decide))
        clear h1 o1 HP0 HV0 HP
        obtain ⟨cu0, cu1, cu2, cu3⟩ := var_cells HV1.out
        go_wp2_with fail
        refine (pm_rarm HP1.out nn hn1 hn2).mono ?_
        rintro e x2 ⟨rfl, h2, o2⟩
        have HP := Lib.hid h2
        have HV := Lib.hid (o2 _ _ _ _ HV1.out (by decide) (by decide) (by decide) (by decide) (by decide))
        clear h2 o2 HP1 HV1 cu0 cu1 cu2 cu3
        obtain ⟨cv0, cv1, cv2, cv3⟩ := var_cells HV.out
        go_wp2_with fail
        refine (read_same HP.out.1 oi (by rw [armed_buf]; omega)).mono ?_
        rintro e y1 ⟨v1, rfl, A3, n3, c3, l3, rfl, hh3, hl3, hb3⟩
        have HH3 := Lib.hid hh3
        have HL3 := Lib.hid hl3
        have HP1 := Lib.hid (HP.out.below hb3)
        have HV1 : Hid (y1.heap[wr.heap.size]? = some (.cells #[.int .i64 3, .int .i64 oi, .int .i64 nn, .slice A2 n2 c2] 30 (0, 0))) := (hb3.block _ (Array.getElem?_eq_some_iff.1 HV.out).1).trans HV.out
        clear hh3 hl3 hb3 cv0 cv1 cv2 cv3 HP HV
        obtain ⟨cw0, cw1, cw2, cw3⟩ := var_cells HV1.out
        go_wp2_with fail
        refine (rread_same HP1.out.2 oi (by rw [armed_buf]; omega)).mono ?_
        rintro e y2 ⟨v2, rfl, A5, n5, c5, l5, rfl, hh5, hl5, hb5⟩
        have ct3 := conv_hold (HH3.out.below hb5)
        have ct5 := conv_hold hh5
        rw [hl5, ← HL3.out] at ct5
        have HP2 := Lib.hid (HP1.out.below hb5)
        clear hh5 hl5 hb5 HH3 HL3 HP1 HV1 cw0 cw1 cw2 cw3
        go_wp2_with fail
        refine (same_any w _ g m _ _ HP2.out (by rw [armed_buf]; omega)).mono ?_
        rintro e y3 ⟨rfl, hb6⟩
        have HP3 := Lib.hid (HP2.out.below hb6)
        clear hb6 HP2 ct3 ct5
        go_wp2_with fail
        go_roundw
        case rel => exact ⟨k + 1, g, (s.aSt nn), u, by omega, by go_num, rfl, HP3.out, (by rw [armed_buf]; omega), huk1⟩
        case measure => simp [intOf]; omega
      by_cases k4e : kd = 4
      · subst k4e
        have HP0 := Lib.hid (HP.out.below ((Below.refl _ _).alloc (Nat.le_refl _) (.cells #[.int .i64 4, .int .i64 oi, .int .i64 nn, .slice A2 n2 c2] 30)))
        have HV0 : Hid ((wr.alloc (.cells #[.int .i64 4, .int .i64 oi, .int .i64 nn, .slice A2 n2 c2] 30)).heap[wr.heap.size]? = some (.cells #[.int .i64 4, .int .i64 oi, .int .i64 nn, .slice A2 n2 c2] 30 (0, 0))) := heap_alloc_new wr _
        have HA2 := Lib.hid (HK.out.hold.below HP0.out.1.b)
        simp only at HA2
        go_wp2_with (with_reducible refine wpList_load_mid rfl 30 (.tmp 32) rfl b (off + k * 4) rfl [.int .i64 4, .int .i64 oi, .int .i64 nn, .slice A2 n2 c2] _ HRG.out Try.underlying30 rfl HI30.out ?_)
        refine (pm_crash HP0.out oi nn (by omega)).mono ?_
        rintro e x1 ⟨rfl, h1, o1⟩
        have HP1 := Lib.hid h1
        have HV1 := Lib.hid (o1 _ _ _ _ HV0.out (by decide) (by decide) (by decide) (by decide) (by decide))
        clear h1 o1 HP0 HV0 HP
        obtain ⟨cu0, cu1, cu2, cu3⟩ := var_cells HV1.out
        go_wp2_with fail
        refine (pm_rcrash HP1.out oi nn (by omega) (by omega)).mono ?_
        rintro e x2 ⟨rfl, h2, o2⟩
        have HP := Lib.hid h2
        have HV := Lib.hid (o2 _ _ _ _ HV1.out (by decide) (by decide) (by decide) (by decide) (by decide))
        clear h2 o2 HP1 HV1 cu0 cu1 cu2 cu3
        obtain ⟨cv0, cv1, cv2, cv3⟩ := var_cells HV.out
        go_wp2_with fail
        refine (read_same HP.out.1 oi (by show 0 ≤ _; omega)).mono ?_
        rintro e y1 ⟨v1, rfl, A3, n3, c3, l3, rfl, hh3, hl3, hb3⟩
        have HH3 := Lib.hid hh3
        have HL3 := Lib.hid hl3
        have HP1 := Lib.hid (HP.out.below hb3)
        have HV1 : Hid (y1.heap[wr.heap.size]? = some (.cells #[.int .i64 4, .int .i64 oi, .int .i64 nn, .slice A2 n2 c2] 30 (0, 0))) := (hb3.block _ (Array.getElem?_eq_some_iff.1 HV.out).1).trans HV.out
        clear hh3 hl3 hb3 cv0 cv1 cv2 cv3 HP HV
        obtain ⟨cw0, cw1, cw2, cw3⟩ := var_cells HV1.out
        go_wp2_with fail
        refine (rread_same HP1.out.2 oi (by show 0 ≤ _; omega)).mono ?_
        rintro e y2 ⟨v2, rfl, A5, n5, c5, l5, rfl, hh5, hl5, hb5⟩
        have ct3 := conv_hold (HH3.out.below hb5)
        have ct5 := conv_hold hh5
        rw [hl5, ← HL3.out] at ct5
        have HP2 := Lib.hid (HP1.out.below hb5)
        clear hh5 hl5 hb5 HH3 HL3 HP1 HV1 cw0 cw1 cw2 cw3
        go_wp2_with fail
        refine (same_any w _ g m _ _ HP2.out (by show 0 ≤ _; omega)).mono ?_
        rintro e y3 ⟨rfl, hb6⟩
        have HP3 := Lib.hid (HP2.out.below hb6)
        clear hb6 HP2 ct3 ct5
        go_wp2_with fail
        go_roundw
        case rel => exact ⟨k + 1, g, (s.cSt oi nn), (u + 1048577), by omega, by go_num, rfl, HP3.out, (by show 0 ≤ k + 1; omega), huk2⟩
        case measure => simp [intOf]; omega
      by_cases k6e : kd = 6
      · subst k6e
        have HP0 := Lib.hid (HP.out.below ((Below.refl _ _).alloc (Nat.le_refl _) (.cells #[.int .i64 6, .int .i64 oi, .int .i64 nn, .slice A2 n2 c2] 30)))
        have HV0 : Hid ((wr.alloc (.cells #[.int .i64 6, .int .i64 oi, .int .i64 nn, .slice A2 n2 c2] 30)).heap[wr.heap.size]? = some (.cells #[.int .i64 6, .int .i64 oi, .int .i64 nn, .slice A2 n2 c2] 30 (0, 0))) := heap_alloc_new wr _
        have HA2 := Lib.hid (HK.out.hold.below HP0.out.1.b)
        simp only at HA2
        go_wp2_with (with_reducible refine wpList_load_mid rfl 30 (.tmp 32) rfl b (off + k * 4) rfl [.int .i64 6, .int .i64 oi, .int .i64 nn, .slice A2 n2 c2] _ HRG.out Try.underlying30 rfl HI30.out ?_)
        refine (pm_clone HP0.out (by omega)).mono ?_
        rintro e x1 ⟨gc, rfl, h1, r1, o1⟩
        have H1 := Lib.hid h1
        have R1 := Lib.hid r1
        have HV1 := Lib.hid (o1 _ _ _ _ HV0.out (by decide) (by decide) (by decide) (by decide) (by decide))
        clear h1 r1 o1 HP0 HV0 HP
        go_wp2_with fail
        refine (pm_two_write (H1.out.alloc _) (R1.out.below ((Below.refl _ _).alloc (Nat.le_refl _) _)) 0 _ 4 4 [103, 111, 110, 101] (Hold.new x1 [103, 111, 110, 101] 5 _ _ rfl) (by omega) (by omega)).mono ?_
        rintro e x2 ⟨rfl, h2, r2, o2⟩
        have H2 := Lib.hid h2
        have R2 := Lib.hid r2
        have HV2 := Lib.hid (o2 _ _ _ _ ((Oth.below ((Below.refl _ _).alloc (Nat.le_refl _) _)) _ _ _ _ HV1.out (by decide) (by decide) (by decide) (by decide) (by decide)) (by decide) (by decide) (by decide) (by decide) (by decide))
        have hbl2 := wSt_len s 0 [103, 111, 110, 101]
        clear h2 r2 o2 H1 R1 HV1
        generalize s.wSt 0 [103, 111, 110, 101] = s2 at *
        go_wp2_with fail
        refine (pm_two_flush H2.out R2.out (by omega)).mono ?_
        rintro e x3 ⟨rfl, h3, r3, o3⟩
        have HP : Hid (PM w x3 gc m s s u) := ⟨h3.copy, r3⟩
        have HV := Lib.hid (o3 _ _ _ _ HV2.out (by decide) (by decide) (by decide) (by decide) (by decide))
        clear h3 r3 o3 H2 R2 HV2 hbl2
        obtain ⟨cv0, cv1, cv2, cv3⟩ := var_cells HV.out
        go_wp2_with fail
        refine (read_same HP.out.1 oi (by omega)).mono ?_
        rintro e y1 ⟨v1, rfl, A3, n3, c3, l3, rfl, hh3, hl3, hb3⟩
        have HH3 := Lib.hid hh3
        have HL3 := Lib.hid hl3
        have HP1 := Lib.hid (HP.out.below hb3)
        have HV1 : Hid (y1.heap[wr.heap.size]? = some (.cells #[.int .i64 6, .int .i64 oi, .int .i64 nn, .slice A2 n2 c2] 30 (0, 0))) := (hb3.block _ (Array.getElem?_eq_some_iff.1 HV.out).1).trans HV.out
        clear hh3 hl3 hb3 cv0 cv1 cv2 cv3 HP HV
        obtain ⟨cw0, cw1, cw2, cw3⟩ := var_cells HV1.out
        go_wp2_with fail
        refine (rread_same HP1.out.2 oi (by omega)).mono ?_
        rintro e y2 ⟨v2, rfl, A5, n5, c5, l5, rfl, hh5, hl5, hb5⟩
        have ct3 := conv_hold (HH3.out.below hb5)
        have ct5 := conv_hold hh5
        rw [hl5, ← HL3.out] at ct5
        have HP2 := Lib.hid (HP1.out.below hb5)
        clear hh5 hl5 hb5 HH3 HL3 HP1 HV1 cw0 cw1 cw2 cw3
        go_wp2_with fail
        refine (same_any w _ gc m _ _ HP2.out (by omega)).mono ?_
        rintro e y3 ⟨rfl, hb6⟩
        have HP3 := Lib.hid (HP2.out.below hb6)
        clear hb6 HP2 ct3 ct5
        go_wp2_with fail
        go_roundw
        case rel => exact ⟨k + 1, gc, s, u, by omega, by go_num, rfl, HP3.out, by omega, huk1⟩
        case measure => simp [intOf]; omega
      have HP0 := Lib.hid (HP.out.below ((Below.refl _ _).alloc (Nat.le_refl _) (.cells #[.int .i64 kd, .int .i64 oi, .int .i64 nn, .slice A2 n2 c2] 30)))
      have HV0 : Hid ((wr.alloc (.cells #[.int .i64 kd, .int .i64 oi, .int .i64 nn, .slice A2 n2 c2] 30)).heap[wr.heap.size]? = some (.cells #[.int .i64 kd, .int .i64 oi, .int .i64 nn, .slice A2 n2 c2] 30 (0, 0))) := heap_alloc_new wr _
      have HA2 := Lib.hid (HK.out.hold.below HP0.out.1.b)
      simp only at HA2
      go_wp2_with (with_reducible refine wpList_load_mid rfl 30 (.tmp 32) rfl b (off + k * 4) rfl [.int .i64 kd, .int .i64 oi, .int .i64 nn, .slice A2 n2 c2] _ HRG.out Try.underlying30 rfl HI30.out ?_)
      generalize wr.alloc (.cells #[.int .i64 kd, .int .i64 oi, .int .i64 nn, .slice A2 n2 c2] 30) = X0 at *
      clear HP
      have HP := HP0
      have HV := HV0
      clear HP0 HV0
      obtain ⟨cv0, cv1, cv2, cv3⟩ := var_cells HV.out
      refine (read_same HP.out.1 oi (by omega)).mono ?_
      rintro e y1 ⟨v1, rfl, A3, n3, c3, l3, rfl, hh3, hl3, hb3⟩
      have HH3 := Lib.hid hh3
      have HL3 := Lib.hid hl3
      have HP1 := Lib.hid (HP.out.below hb3)
      have HV1 : Hid (y1.heap[wr.heap.size]? = some (.cells #[.int .i64 kd, .int .i64 oi, .int .i64 nn, .slice A2 n2 c2] 30 (0, 0))) := (hb3.block _ (Array.getElem?_eq_some_iff.1 HV.out).1).trans HV.out
      clear hh3 hl3 hb3 cv0 cv1 cv2 cv3 HP HV
      obtain ⟨cw0, cw1, cw2, cw3⟩ := var_cells HV1.out
      go_wp2_with fail
      refine (rread_same HP1.out.2 oi (by omega)).mono ?_
      rintro e y2 ⟨v2, rfl, A5, n5, c5, l5, rfl, hh5, hl5, hb5⟩
      have ct3 := conv_hold (HH3.out.below hb5)
      have ct5 := conv_hold hh5
      rw [hl5, ← HL3.out] at ct5
      have HP2 := Lib.hid (HP1.out.below hb5)
      clear hh5 hl5 hb5 HH3 HL3 HP1 HV1 cw0 cw1 cw2 cw3
      go_wp2_with fail
      refine (same_any w _ g m _ _ HP2.out (by omega)).mono ?_
      rintro e y3 ⟨rfl, hb6⟩
      have HP3 := Lib.hid (HP2.out.below hb6)
      clear hb6 HP2 ct3 ct5
      go_wp2_with fail
      go_roundw
      case rel => exact ⟨k + 1, g, s, u, by omega, by go_num, rfl, HP3.out, by omega, huk1⟩
      case measure => simp [intOf]; omega
    · obtain rfl : k = N := by omega
      go_wp2_with fail
      go_ret
      exact ⟨rfl, HP.out.1.b⟩
end Go.Proofs.Ytmajmohnnfjiaaa
