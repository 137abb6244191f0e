/-
  What is proved: what the document's own reader answers and leaves, told by the bytes that are left, or that something could not be read: the same as the program's.
-/
import Derived.Test.YtoidbpkclaebpaaRdr
import Derived.Deep.QuietTactic
import Derived.BigQuiet
namespace Go.Proofs.Ytoidbpkclaebpaa
open Go.RowKit

/-- a reader of the document's lies at block m -/
def MRdr (w : World) (m : Nat) (s : St) : Prop :=
  ∃ A n c k L, w.heap[m]? = some (.cells #[.slice A n c, .int .i64 ((k : Nat) : Int), .bool s.isNone] 34 (0, 0)) ∧ Hold w A n c L ∧ k ≤ n ∧ n ≤ 281474976710656 ∧ ∀ l, s = some l → L.drop k = l
def MLeft (w : World) (m : Nat) (v : Value) (s : St) (e : Ending) (w' : World) : Prop := e = .returned v ∧ MRdr w' m s ∧ w.grownBy w' (some m)

theorem mrdr_cs (A : Option Addr) (n c k : Nat) (x : Bool) : ∀ v ∈ (#[Value.slice A n c, .int .i64 (k : Int), .bool x] : Array Value).toList, ∀ y, v ≠ .int .u8 y := by
  intro v hv y
  simp at hv
  rcases hv with rfl | rfl | rfl <;> simp
theorem drewN_grown (w : World) (n : Nat) (r : Option Nat) : w.grownBy (w.drewN n) r := ⟨rfl, rfl, rfl, Nat.le_refl _, fun _ _ _ => rfl⟩
theorem MRdr.drewN {w : World} {m : Nat} {s : St} (h : MRdr w m s) (n : Nat) : MRdr (w.drewN n) m s := h

set_option maxHeartbeats 400000 in
theorem mleft_any (m : Nat) (s : St) (w : World) (h : MRdr w m s) :
    Calls Try.prog 27 #[.pointer (some ⟨m, 0, none⟩)] w (MLeft w m (.int .i64 ((left s).length : Int)) s) := by
  have h' := Lib.hid h
  obtain ⟨A, n, c, k, L, hg, hh, hk, hn, hs⟩ := h
  have c0 := cell_of_row w m 0 _ 34 (0, 0) hg
  have c1 := cell_of_row w m 1 _ 34 (0, 0) hg
  have c2 := cell_of_row w m 2 _ 34 (0, 0) hg
  simp at c0 c1 c2
  have hl := hh.1
  cases s with
  | none =>
    simp only [Option.isNone_none] at c2
    clear hg hh hs
    go_enter Try.func27, Try.ntmps27
    go_wp2
    go_ret
    exact ⟨rfl, h'.out, World.grownBy.refl _ _⟩
  | some l =>
    have hL : l.length = n - k := by rw [← hs l rfl, List.length_drop, hl]
    have HL := Lib.hid hL
    simp only [Option.isNone_some] at c2
    clear hg hh hs hL hl
    go_enter Try.func27, Try.ntmps27
    go_wp2
    go_quiet (fail)
    go_wp2
    go_ret
    refine ⟨?_, h'.out.drewN _, drewN_grown _ _ _⟩
    have e : (n : Int) - (k : Int) = (l.length : Int) := by rw [HL.out]; omega
    show Ending.returned (.int .i64 ((n : Int) - (k : Int))) = _
    rw [e]
    rfl

set_option maxHeartbeats 400000 in
theorem mint_yes (m : Nat) (s : St) (w : World) (h : MRdr w m s) (h8 : 8 ≤ (left s).length) :
    Calls Try.prog 18 #[.pointer (some ⟨m, 0, none⟩)] w (MLeft w m (.int .i64 (rd ((left s).take 8))) (stTake 8 s)) := by
  have HL := Lib.hid (mleft_any m s w h)
  cases s with
  | none => simp [left] at h8
  | some l =>
    have hll : (left (some l)).length = l.length := rfl
    rw [hll] at HL h8
    have h8i : (8 : Int) ≤ (l.length : Int) := by omega
    clear h
    go_enter Try.func18, Try.ntmps18
    go_wp2_with (go_at_call 27; refine HL.out.mono ?_; rintro e w1 ⟨rfl, ⟨A, n, c, k, L, hg, hh, hk, hn, hs⟩, hgr⟩)
    have hL : L.drop k = l := hs l rfl
    have hlen : L.length = n := hh.1
    have hll2 : l.length = n - k := by rw [← hL, List.length_drop, hlen]
    have hkn : k + 8 ≤ n := by omega
    have c0 := cell_of_row w1 m 0 _ 34 (0, 0) hg
    have c1 := cell_of_row w1 m 1 _ 34 (0, 0) hg
    have f1 : w1.frozen? ⟨m, 1, none⟩ = false := by simp [World.frozen?, hg]
    simp at c0 c1
    have HG := Lib.hid hg
    have HH := Lib.hid hh
    have HD := Lib.hid hL
    have HN := Lib.hid hlen
    clear hg hh hL hlen hs hll2
    go_loopw [3, 4] (fun u i wr => ∃ j q : Nat, j ≤ 8 ∧ wr = w1.drewN q ∧ i = .int .i64 j ∧ u = .int .u64 (num (l.take j))) (fun _ i _ => 8 - (intOf i).toNat)
    case atStart => exact ⟨0, 0, Nat.zero_le _, rfl, rfl, rfl⟩
    case round =>
      obtain ⟨j, q, hj, rfl, rfl, rfl⟩ := hrel
      by_cases hlt : j < 8
      · obtain ⟨b, off, hkl, rfl, hc⟩ := HH.out.at (k := k + j) (by omega)
        have hlk : j < l.length := by omega
        have hlj : L[k + j] = l[j] := by
          have := HD.out
          subst this
          simp
        rw [hlj] at hc
        have hs := Lib.hid (num_take l j hlk)
        have hu := num_take_lt l j (by omega)
        have hcb := (l[j]).toNat_lt
        generalize num (l.take j) = u at *
        generalize (l[j]).toNat = x at *
        have hw1 : IntKind.i64.wrap ((k : Int) + (j : Int)) = (k : Int) + (j : Int) := IntWalk.i64_in _ (by omega)
        have hw2 : (0 : Int) ≤ (k : Int) + (j : Int) := by omega
        have hw3 : (k : Int) + (j : Int) < (n : Int) := by omega
        have hw4 : ((k : Int) + (j : Int)).toNat = k + j := by omega
        clear hlj
        go_wp2
        go_quiet (fail)
        go_wp2
        go_roundw
        case rel => exact ⟨j + 1, q + nq, by omega, rfl, by go_num, by rw [hs.out]; go_num⟩
        case measure => simp [intOf]; omega
      · obtain rfl : j = 8 := by omega
        have fin : MRdr ((w1.drewN q).setCell ⟨m, 1, none⟩ (.int .i64 ((k : Int) + 8))) m (stTake 8 (some l)) := by
          have hgr1 := set_grown (w1.drewN q) m 1 (.int .i64 ((k : Int) + 8))
          have hap := HH.out.apart HG.out (mrdr_cs _ _ _ _ _)
          refine ⟨A, n, c, k + 8, L, ?_, (HH.out.drewN q).grown hgr1 hap, hkn, hn, ?_⟩
          · have := set_block (w := w1.drewN q) (i := 1) HG.out (.int .i64 ((k : Int) + 8))
            rw [this]
            rfl
          · intro l' hl'
            simp only [stTake, Option.map_some, Option.some.injEq] at hl'
            rw [← hl', ← HD.out, List.drop_drop]
        have FIN := Lib.hid fin
        have GR := Lib.hid (grown_trans (grown_trans hgr (drewN_grown w1 q _)) (set_grown (w1.drewN q) m 1 (.int .i64 ((k : Int) + 8))))
        clear fin
        go_wp2
        go_ret
        exact ⟨rfl, FIN.out, GR.out⟩

set_option maxHeartbeats 400000 in
theorem mint_no (m : Nat) (s : St) (w : World) (h : MRdr w m s) (h8 : (left s).length < 8) :
    Calls Try.prog 18 #[.pointer (some ⟨m, 0, none⟩)] w (MLeft w m (.int .i64 0) none) := by
  have HL := Lib.hid (mleft_any m s w h)
  have h8i : ((left s).length : Int) < 8 := by omega
  clear h
  generalize (left s).length = t at *
  go_enter Try.func18, Try.ntmps18
  go_wp2_with (go_at_call 27; refine HL.out.mono ?_; rintro e w1 ⟨rfl, ⟨A, n, c, k, L, hg, hh, hk, hn, hs⟩, hgr⟩; have c2 := (cell_of_row w1 m 2 _ 34 (0, 0) hg); have f2 : w1.frozen? ⟨m, 2, none⟩ = false := (by simp [World.frozen?, hg]); simp at c2; have HG := Lib.hid hg; have HH := Lib.hid hh; clear hg hh hs)
  go_ret
  have hgr1 := set_grown w1 m 2 (.bool true)
  refine ⟨rfl, ⟨A, n, c, k, L, ?_, HH.out.grown hgr1 (HH.out.apart HG.out (mrdr_cs _ _ _ _ _)), hk, hn, (fun l hl => by cases hl)⟩, grown_trans hgr hgr1⟩
  exact set_block HG.out _

theorem mint_any (m : Nat) (s : St) (w : World) (h : MRdr w m s) :
    Calls Try.prog 18 #[.pointer (some ⟨m, 0, none⟩)] w (MLeft w m (.int .i64 (stInt s).1) (stInt s).2) := by
  unfold stInt
  split
  · exact mint_yes m s w h ‹_›
  · exact mint_no m s w h (by omega)

theorem mspoil {w : World} {m : Nat} {s : St} (h : MRdr w m s) : MRdr (w.setCell ⟨m, 2, none⟩ (.bool true)) m none := by
  obtain ⟨A, n, c, k, L, hg, hh, hk, hn, hs⟩ := h
  have hgr1 := set_grown w m 2 (.bool true)
  exact ⟨A, n, c, k, L, set_block hg _, hh.grown hgr1 (hh.apart hg (mrdr_cs _ _ _ _ _)), hk, hn, fun l hl => by cases hl⟩
/-- what a walk looks at -/
theorem mcells {w : World} {m : Nat} {s : St} (h : MRdr w m s) : w.cell? ⟨m, 2, none⟩ = some (.bool s.isNone) ∧ w.frozen? ⟨m, 2, none⟩ = false := by
  obtain ⟨A, n, c, k, L, hg, _⟩ := h
  have c2 := cell_of_row w m 2 _ 34 (0, 0) hg
  simp at c2
  exact ⟨c2, by simp [World.frozen?, hg]⟩

set_option maxHeartbeats 1000000 in
theorem mcount_any (m : Nat) (least : Int) (s : St) (w : World) (h : MRdr w m s) (h1 : -9223372036854775808 ≤ least) (h2 : least ≤ 9223372036854775807) :
    Calls Try.prog 24 #[.pointer (some ⟨m, 0, none⟩), .int .i64 least] w (MLeft w m (.int .i64 (stCount least s).1) (stCount least s).2) := by
  have hi := mint_any m s w h
  have hb := stInt_bounds s
  have hbad := stCount_bad least s
  have hgood := stCount_good least s
  have hnone : (stInt s).2 = none → stCount least s = (0, none) := by
    intro h0
    unfold stCount
    have h0' : stInt s = (0, none) := by
      unfold stInt at h0 ⊢
      split
      · rename_i h8
        rw [if_pos h8] at h0
        cases s with
        | none => simp [left] at h8
        | some l => cases h0
      · rfl
    rw [h0']
    split <;> rfl
  have hlen : ∀ l, (stInt s).2 = some l → l.length ≤ 281474976710656 := by
    intro l hl
    obtain ⟨A, n, c, k, L, hg, hh, hk, hn, hs⟩ := h
    unfold stInt at hl
    split at hl
    · cases s with
      | none => cases hl
      | some l0 =>
        simp only [stTake, Option.map_some, Option.some.injEq] at hl
        have := hs l0 rfl
        have h3 := hh.1
        rw [← hl, ← this]
        simp
        omega
    · cases hl
  generalize stCount least s = q at *
  generalize stInt s = r at *
  obtain ⟨x, s1⟩ := r
  obtain ⟨hb1, hb2⟩ := hb
  simp only at hi hb1 hb2 hbad hgood hnone hlen
  have HI := Lib.hid hi
  have HB := Lib.hid hbad
  have HO := Lib.hid hgood
  have HL := Lib.hid hlen
  clear hi h hbad hgood hlen
  cases s1 with
  | none =>
    obtain rfl := hnone rfl
    clear hnone
    go_enter Try.func24, Try.ntmps24
    go_wp2_with (go_at_call 18; refine HI.out.mono ?_; rintro e w1 ⟨rfl, hr, hgr⟩; have H1 := Lib.hid hr; obtain ⟨c2, f2⟩ := mcells hr; simp only [Option.isNone_none] at c2; clear hr)
    all_goals
      go_ret
      exact ⟨rfl, mspoil H1.out, grown_trans hgr (set_grown _ _ _ _)⟩
  | some l =>
    clear hnone
    have hl0 := HL.out l rfl
    clear HL
    simp only [left, Option.getD_some] at HB HO
    by_cases hneg : x < 0
    · obtain rfl := HB.out (.inl hneg)
      go_enter Try.func24, Try.ntmps24
      go_wp2_with (go_at_call 18; refine HI.out.mono ?_; rintro e w1 ⟨rfl, hr, hgr⟩; have H1 := Lib.hid hr; obtain ⟨c2, f2⟩ := mcells hr; simp only [Option.isNone_some] at c2; have HM := Lib.hid (mleft_any m (some l) w1 hr); simp only [left, Option.getD_some] at HM; clear hr)
      all_goals
        go_ret
        exact ⟨rfl, mspoil H1.out, grown_trans hgr (set_grown _ _ _ _)⟩
    by_cases hl : least < 1
    · go_enter Try.func24, Try.ntmps24
      go_wp2_with (first
        | (go_at_call 18; refine HI.out.mono ?_; rintro e w1 ⟨rfl, hr, hgr⟩; have H1 := Lib.hid hr; obtain ⟨c2, f2⟩ := mcells hr; simp only [Option.isNone_some] at c2; have HM := Lib.hid (mleft_any m (some l) w1 hr); simp only [left, Option.getD_some] at HM; clear hr)
        | (go_at_call 27; refine HM.out.mono ?_; rintro e w2 ⟨rfl, hr2, hgr2⟩; have H2 := Lib.hid hr2; obtain ⟨d2, g2⟩ := mcells hr2; simp only [Option.isNone_some] at d2; clear hr2))
      · have ht : x < 0 ∨ (l.length : Int) < x := by assumption
        obtain rfl := HB.out (by rw [show max least 1 = 1 by omega, Int.ediv_one]; exact ht)
        go_ret
        exact ⟨rfl, mspoil H2.out, grown_trans (grown_trans hgr hgr2) (set_grown _ _ _ _)⟩
      · have ht : 0 ≤ x ∧ x ≤ (l.length : Int) := by assumption
        obtain rfl := HO.out (by rw [show max least 1 = 1 by omega, Int.ediv_one]; omega)
        go_ret
        exact ⟨rfl, H2.out, grown_trans hgr hgr2⟩
    · go_enter Try.func24, Try.ntmps24
      go_wp2_with (first
        | (go_at_call 18; refine HI.out.mono ?_; rintro e w1 ⟨rfl, hr, hgr⟩; have H1 := Lib.hid hr; obtain ⟨c2, f2⟩ := mcells hr; simp only [Option.isNone_some] at c2; have HM := Lib.hid (mleft_any m (some l) w1 hr); simp only [left, Option.getD_some] at HM; clear hr)
        | (go_at_call 27; refine HM.out.mono ?_; rintro e w2 ⟨rfl, hr2, hgr2⟩; have H2 := Lib.hid hr2; obtain ⟨d2, g2⟩ := mcells hr2; simp only [Option.isNone_some] at d2; clear hr2))
      · have ht : x < 0 ∨ wrap64 ((l.length : Int) / least) < x := by assumption
        rw [quo_in l.length least hl0 (by omega)] at ht
        obtain rfl := HB.out (by rw [show max least 1 = least by omega]; exact ht)
        go_ret
        exact ⟨rfl, mspoil H2.out, grown_trans (grown_trans hgr hgr2) (set_grown _ _ _ _)⟩
      · have ht : 0 ≤ x ∧ x ≤ wrap64 ((l.length : Int) / least) := by assumption
        rw [quo_in l.length least hl0 (by omega)] at ht
        obtain rfl := HO.out (by rw [show max least 1 = least by omega]; omega)
        go_ret
        exact ⟨rfl, H2.out, grown_trans hgr hgr2⟩
theorem stInt_none_of {s : St} (h : (stInt s).2 = none) : stInt s = (0, none) := by
  unfold stInt at h ⊢
  split
  · rename_i h8
    rw [if_pos h8] at h
    cases s with
    | none => simp [left] at h8
    | some l => cases h
  · rfl
theorem stText_bad {s : St} (h : stCount 1 s = (0, none)) : stText s = ([], none) := by
  unfold stText
  rw [h]
  rfl
theorem stText_ways (s : St) : ((stInt s).2 = none → stText s = ([], none)) ∧ ∀ x l, stInt s = (x, some l) → ((x < 0 ∨ (l.length : Int) < x) → stText s = ([], none)) ∧ (0 ≤ x → x ≤ (l.length : Int) → stText s = (l.take x.toNat, some (l.drop x.toNat))) := by
  refine ⟨fun h => ?_, fun x l hx => ⟨fun h => ?_, fun h1 h2 => ?_⟩⟩
  · have h0 := stInt_none_of h
    exact stText_bad (by rw [stCount_good _ _ (by rw [h0]; simp [left]), h0])
  · refine stText_bad (stCount_bad _ _ ?_)
    rw [hx]
    simpa [left] using h
  · have hc : stCount 1 s = (x, some l) := by
      rw [stCount_good _ _ (by rw [hx]; simp [left]; omega), hx]
    unfold stText
    rw [hc]
    rfl

set_option maxHeartbeats 1000000 in
theorem mtext_any (m : Nat) (s : St) (w : World) (h : MRdr w m s) :
    Calls Try.prog 20 #[.pointer (some ⟨m, 0, none⟩)] w (MLeft w m (.string ⟨(stText s).1.toArray⟩) (stText s).2) := by
  have hi := mint_any m s w h
  have hb := stInt_bounds s
  obtain ⟨t1, t2⟩ := stText_ways s
  generalize stText s = q at *
  generalize stInt s = r at *
  obtain ⟨x, s1⟩ := r
  obtain ⟨hb1, hb2⟩ := hb
  simp only at hi hb1 hb2 t1
  have HI := Lib.hid hi
  clear hi h
  cases s1 with
  | none =>
    obtain rfl := t1 rfl
    clear t1 t2
    go_enter Try.func20, Try.ntmps20
    go_wp2_with (go_at_call 18; refine HI.out.mono ?_; rintro e w1 ⟨rfl, hr, hgr⟩; have H1 := Lib.hid hr; obtain ⟨c2, f2⟩ := mcells hr; simp only [Option.isNone_none] at c2; clear hr)
    go_ret
    exact ⟨rfl, mspoil H1.out, grown_trans hgr (set_grown _ _ _ _)⟩
  | some l =>
    obtain ⟨u1, u2⟩ := t2 x l rfl
    have U1 := Lib.hid u1
    have U2 := Lib.hid u2
    clear t1 t2 u1 u2
    by_cases hneg : x < 0
    · obtain rfl := U1.out (.inl hneg)
      go_enter Try.func20, Try.ntmps20
      go_wp2_with (go_at_call 18; refine HI.out.mono ?_; rintro e w1 ⟨rfl, hr, hgr⟩; have H1 := Lib.hid hr; obtain ⟨c2, f2⟩ := mcells hr; simp only [Option.isNone_some] at c2; clear hr)
      go_ret
      exact ⟨rfl, mspoil H1.out, grown_trans hgr (set_grown _ _ _ _)⟩
    by_cases hbig : (l.length : Int) < x
    · obtain rfl := U1.out (.inr hbig)
      go_enter Try.func20, Try.ntmps20
      go_wp2_with (first
        | (go_at_call 18; refine HI.out.mono ?_; rintro e w1 ⟨rfl, hr, hgr⟩; have H1 := Lib.hid hr; obtain ⟨c2, f2⟩ := mcells hr; simp only [Option.isNone_some] at c2; have HM := Lib.hid (mleft_any m (some l) w1 hr); simp only [left, Option.getD_some] at HM; clear hr)
        | (go_at_call 27; refine HM.out.mono ?_; rintro e w2 ⟨rfl, hr2, hgr2⟩; have H2 := Lib.hid hr2; obtain ⟨d2, g2⟩ := mcells hr2; simp only [Option.isNone_some] at d2; clear hr2))
      go_ret
      exact ⟨rfl, mspoil H2.out, grown_trans (grown_trans hgr hgr2) (set_grown _ _ _ _)⟩
    obtain ⟨y, rfl⟩ := Int.eq_ofNat_of_zero_le (show 0 ≤ x by omega)
    obtain rfl := U2.out (by omega) (by omega)
    have hyl : y ≤ l.length := by omega
    simp only [Int.toNat_natCast]
    clear U1 U2
    go_enter Try.func20, Try.ntmps20
    go_wp2_with (first
      | (go_at_call 18; refine HI.out.mono ?_; rintro e w1 ⟨rfl, hr, hgr⟩; have H1 := Lib.hid hr; obtain ⟨c2, f2⟩ := mcells hr; simp only [Option.isNone_some] at c2; have HM := Lib.hid (mleft_any m (some l) w1 hr); simp only [left, Option.getD_some] at HM; clear hr)
      | (go_at_call 27; refine HM.out.mono ?_; rintro e w2 ⟨rfl, hr2, hgr2⟩))
    obtain ⟨A, n, c, k, L, hg, hh, hk, hn, hs⟩ := hr2
    have hL : L.drop k = l := hs l rfl
    have hlen : L.length = n := hh.1
    have hll2 : l.length = n - k := by rw [← hL, List.length_drop, hlen]
    have hkn : k + y ≤ n := by omega
    have hnc := hh.2.1
    have d0 := cell_of_row w2 m 0 _ 34 (0, 0) hg
    have d1 := cell_of_row w2 m 1 _ 34 (0, 0) hg
    have f1 : w2.frozen? ⟨m, 1, none⟩ = false := by simp [World.frozen?, hg]
    simp at d0 d1
    have hcell := Lib.hid (show True from trivial)
    have hw1 : IntKind.i64.wrap ((k : Int) + (y : Int)) = (k : Int) + (y : Int) := IntWalk.i64_in _ (by omega)
    have hw4 : ((k : Int) + (y : Int)).toNat = k + y := by omega
    have hw5 : (0 : Int) ≤ (k : Int) + (y : Int) := by omega
    have hw6 : (k : Int) ≤ (k : Int) + (y : Int) := by omega
    have hw7 : (k : Int) + (y : Int) ≤ (c : Int) := by omega
    have HH := Lib.hid hh
    have HG := Lib.hid hg
    have HD := Lib.hid hL
    clear hh hg hL hlen hll2 hs
    have fin : ∀ q, MRdr ((w2.drewN q).setCell ⟨m, 1, none⟩ (.int .i64 ((k : Int) + (y : Int)))) m (some (l.drop y)) ∧ w.grownBy ((w2.drewN q).setCell ⟨m, 1, none⟩ (.int .i64 ((k : Int) + (y : Int)))) (some m) := by
      intro q
      have hgr1 := set_grown (w2.drewN q) m 1 (.int .i64 ((k : Int) + (y : Int)))
      have hap := HH.out.apart HG.out (mrdr_cs _ _ _ _ _)
      refine ⟨⟨A, n, c, k + y, L, ?_, (HH.out.drewN q).grown hgr1 hap, hkn, hn, ?_⟩, grown_trans (grown_trans (grown_trans hgr hgr2) (drewN_grown w2 q _)) hgr1⟩
      · have := set_block (w := w2.drewN q) (i := 1) HG.out (.int .i64 ((k : Int) + (y : Int)))
        rw [this]
        simp
      · intro l' hl'
        injection hl' with hl'
        rw [← hl', ← HD.out, List.drop_drop]
    have FIN := Lib.hid fin
    clear fin
    by_cases hck : c = k
    · have hy0 : y = 0 := by omega
      have cv : ∀ q, (convert 22 9 (.slice A y 0)).run Try.prog (w2.drewN q) = .ok (.string ⟨(l.take y).toArray⟩) (w2.drewN q) := by
        intro q
        have h1 := ((HH.out.drop (k := k) (by omega) (A' := A) (fun e => absurd hck e) (fun _ => rfl)).take (k := y) (by omega)).drewN q
        rw [HD.out, show c - k = 0 by omega] at h1
        exact conv_hold h1
      have HY := Lib.hid hy0
      clear hy0
      subst hck
      go_quiet (fail)
      go_wp2
      go_ret
      exact ⟨rfl, (FIN.out _).1, (FIN.out _).2⟩
    · have cv : ∀ q, (convert 22 9 (.slice (A.map (·.add k)) y (c - k))).run Try.prog (w2.drewN q) = .ok (.string ⟨(l.take y).toArray⟩) (w2.drewN q) := by
        intro q
        have h1 := ((HH.out.drop (k := k) (by omega) (A' := A.map (·.add k)) (fun _ => rfl) (fun e => absurd e hck)).take (k := y) (by omega)).drewN q
        rw [HD.out] at h1
        exact conv_hold h1
      go_quiet (fail)
      go_wp2
      go_ret
      exact ⟨rfl, (FIN.out _).1, (FIN.out _).2⟩

set_option maxHeartbeats 1000000 in
theorem mbool_any (m : Nat) (s : St) (w : World) (h : MRdr w m s) :
    Calls Try.prog 22 #[.pointer (some ⟨m, 0, none⟩)] w (MLeft w m (.bool (stBool s).1) (stBool s).2) := by
  have HL := Lib.hid (mleft_any m s w h)
  have H0 := Lib.hid h
  unfold stBool
  by_cases hz : (left s).length < 1
  · have hnil : left s = [] := List.eq_nil_of_length_eq_zero (by omega)
    rw [hnil] at HL ⊢
    simp only [List.length_nil] at HL ⊢
    clear hz hnil h
    go_enter Try.func22, Try.ntmps22
    go_wp2_with (go_at_call 27; refine HL.out.mono ?_; rintro e w1 ⟨rfl, hr, hgr⟩; have H1 := Lib.hid hr; obtain ⟨c2, f2⟩ := mcells hr; clear hr)
    go_ret
    exact ⟨rfl, mspoil H1.out, grown_trans hgr (set_grown _ _ _ _)⟩
  · cases s with
    | none => simp [left] at hz
    | some l =>
      cases l with
      | nil => simp [left] at hz
      | cons b l =>
        simp only [left, Option.getD_some] at HL hz ⊢
        have hz1 : (1 : Int) ≤ ((b :: l).length : Int) := by omega
        have hbl := b.toNat_lt
        clear h hz
        generalize hbt : (b :: l).length = t at HL hz1
        have HT := Lib.hid hbt
        clear hbt
        have go : ∀ w1 : World, MRdr w1 m (some (b :: l)) → ∃ b0 off n c k, w1.cell? ⟨m, 0, none⟩ = some (.slice (some ⟨b0, off, none⟩) n c) ∧ w1.cell? ⟨m, 1, none⟩ = some (.int .i64 ((k : Nat) : Int)) ∧ w1.frozen? ⟨m, 1, none⟩ = false ∧
            k < n ∧ n ≤ 281474976710656 ∧ w1.cell? ⟨b0, off + k, none⟩ = some (.int .u8 (b.toNat : Int)) ∧ ∀ q, MRdr ((w1.drewN q).setCell ⟨m, 1, none⟩ (.int .i64 ((k : Int) + 1))) m (some l) := by
          intro w1 hr
          obtain ⟨A, n, c, k, L, hg, hh, hk, hn, hs⟩ := hr
          have hL : L.drop k = b :: l := hs _ rfl
          have hlen : L.length = n := hh.1
          have hkn : k < n := by
            have := congrArg List.length hL
            simp at this
            omega
          obtain ⟨b0, off, hkl, rfl, hc⟩ := hh.at (k := k) hkn
          have hLk : L[k] = b := by
            have h0 := List.drop_eq_getElem_cons hkl
            rw [h0] at hL
            injection hL
          rw [hLk] at hc
          have d0 := cell_of_row w1 m 0 _ 34 (0, 0) hg
          have d1 := cell_of_row w1 m 1 _ 34 (0, 0) hg
          simp at d0 d1
          refine ⟨b0, off, n, c, k, d0, d1, by simp [World.frozen?, hg], hkn, hn, hc, fun q => ?_⟩
          have hgr1 := set_grown (w1.drewN q) m 1 (.int .i64 ((k : Int) + 1))
          have hap := hh.apart hg (mrdr_cs _ _ _ _ _)
          refine ⟨_, n, c, k + 1, L, ?_, (hh.drewN q).grown hgr1 hap, by omega, hn, ?_⟩
          · have := set_block (w := w1.drewN q) (i := 1) hg (.int .i64 ((k : Int) + 1))
            rw [this]
            simp
          · intro l' hl'
            injection hl' with hl'
            rw [← List.drop_drop, hL, ← hl']
            rfl
        have GO := Lib.hid go
        clear go
        have hst : stTake 1 (some (b :: l)) = some l := rfl
        rw [hst]
        by_cases hb : 1 < b.toNat
        · rw [if_pos hb]
          have hbi : (1 : Int) < (b.toNat : Int) := by omega
          go_enter Try.func22, Try.ntmps22
          go_wp2_with (go_at_call 27; refine HL.out.mono ?_; rintro e w1 ⟨rfl, hr, hgr⟩)
          obtain ⟨b0, off, n, c, k, d0, d1, f1, hkn, hn, hc, hfin⟩ := GO.out w1 hr
          have hki : (k : Int) < (n : Int) := by omega
          have HF := Lib.hid hfin
          have HR := Lib.hid hr
          clear hfin hr
          go_quiet (fail)
          have hF := HF.out nq
          obtain ⟨c2, f2⟩ := mcells hF
          have HF2 := Lib.hid hF
          clear hF
          go_wp2
          go_ret
          have hne : ((b.toNat : Int) == 1) = false := beq_eq_false_iff_ne.2 (by omega)
          refine ⟨?_, mspoil HF2.out, grown_trans (grown_trans (grown_trans hgr (drewN_grown w1 nq _)) (set_grown _ _ _ _)) (set_grown _ _ _ _)⟩
          show Ending.returned (.bool ((b.toNat : Int) == 1)) = _
          rw [hne]
        · rw [if_neg hb]
          have hbi : (b.toNat : Int) ≤ 1 := by omega
          go_enter Try.func22, Try.ntmps22
          go_wp2_with (go_at_call 27; refine HL.out.mono ?_; rintro e w1 ⟨rfl, hr, hgr⟩)
          obtain ⟨b0, off, n, c, k, d0, d1, f1, hkn, hn, hc, hfin⟩ := GO.out w1 hr
          have hki : (k : Int) < (n : Int) := by omega
          have HF := Lib.hid hfin
          have HR := Lib.hid hr
          clear hfin hr
          go_quiet (fail)
          go_wp2
          go_ret
          exact ⟨rfl, HF.out _, grown_trans (grown_trans hgr (drewN_grown w1 nq _)) (set_grown _ _ _ _)⟩

set_option maxHeartbeats 1000000 in
theorem mdone_any (m : Nat) (s : St) (w : World) (h : MRdr w m s) :
    Calls Try.prog 29 #[.pointer (some ⟨m, 0, none⟩)] w (MLeft w m (.bool (stDone s)) s) := by
  have H0 := Lib.hid h
  obtain ⟨A, n, c, k, L, hg, hh, hk, hn, hs⟩ := h
  have d0 := cell_of_row w m 0 _ 34 (0, 0) hg
  have d1 := cell_of_row w m 1 _ 34 (0, 0) hg
  have d2 := cell_of_row w m 2 _ 34 (0, 0) hg
  simp at d0 d1 d2
  cases s with
  | none =>
    simp only [Option.isNone_none] at d2
    clear hg hh hs
    go_enter Try.func29, Try.ntmps29
    go_wp2
    go_quiet (fail)
    go_wp2
    go_ret
    exact ⟨rfl, H0.out.drewN _, drewN_grown _ _ _⟩
  | some l =>
    have hl : l.length = n - k := by rw [← hs l rfl, List.length_drop, hh.1]
    simp only [Option.isNone_some] at d2
    have HL := Lib.hid hl
    clear hg hh hs hl
    go_enter Try.func29, Try.ntmps29
    go_wp2
    go_quiet (fail)
    go_wp2
    go_ret
    refine ⟨?_, H0.out.drewN _, drewN_grown _ _ _⟩
    have e : ((k : Int) == (n : Int)) = stDone (some l) := by
      unfold stDone
      simp only [Option.isNone_some, Bool.not_false, Bool.true_and, left, Option.getD_some, HL.out]
      by_cases hkn : k = n
      · subst hkn
        simp
      · rw [beq_eq_false_iff_ne.2 (by omega), beq_eq_false_iff_ne.2 (by omega)]
    show Ending.returned (.bool ((k : Int) == (n : Int))) = _
    rw [e]

end Go.Proofs.Ytoidbpkclaebpaa
