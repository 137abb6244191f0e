/-
  What is proved: the walk of the law OctetReads: for all bytes and every script it returns true and turns nothing that was there. Conditions: lengths within Go's own reach.
-/
import Derived.Test.YtoidbpkclaebpaaAwake
import Derived.Test.YtoidbpkclaebpaaMrd
import Derived.Test.YtoidbpkclaebpaaSsb
import Derived.Deep.DeepCutAuto
import Derived.Deep.CutBlock
namespace Go.Proofs.Ytoidbpkclaebpaa
open Go.RowKit

theorem two_ne {w : World} {g m : Nat} {s s' : St} (h : Rdr w g s) (hm : MRdr w m s') : g ≠ m := by
  obtain ⟨A, n, c, hg, _⟩ := h
  obtain ⟨A', n', c', k, L, hg', _⟩ := hm
  rintro rfl
  rw [hg] at hg'
  injection hg' with h1
  injection h1 with h1 h2
  cases h2
theorem Rdr.lt {w : World} {g : Nat} {s : St} (h : Rdr w g s) : g < w.heap.size := by
  obtain ⟨A, n, c, hg, _⟩ := h
  exact (Array.getElem?_eq_some_iff.1 hg).1
theorem MRdr.lt {w : World} {m : Nat} {s : St} (h : MRdr w m s) : m < w.heap.size := by
  obtain ⟨A, n, c, k, L, hg, _⟩ := h
  exact (Array.getElem?_eq_some_iff.1 hg).1
theorem Rdr.other {w w' : World} {g m : Nat} {s s' : St} (h : Rdr w g s) (hm : MRdr w m s') (hw : w.grownBy w' (some m)) : Rdr w' g s := by
  have hne := two_ne h hm
  have hlt := h.lt
  obtain ⟨A, n, c, hg, hh, hn⟩ := h
  obtain ⟨A', n', c', k, L, hg', _⟩ := hm
  exact ⟨A, n, c, (hw.block g hlt (fun e => hne (by injection e))).trans hg, hh.grown hw (hh.apart hg' (mrdr_cs _ _ _ _ _)), hn⟩
theorem MRdr.other {w w' : World} {g m : Nat} {s s' : St} (h : Rdr w g s) (hm : MRdr w m s') (hw : w.grownBy w' (some g)) : MRdr w' m s' := by
  have hne := two_ne h hm
  have hlt := hm.lt
  obtain ⟨A, n, c, hg, _⟩ := h
  obtain ⟨A', n', c', k, L, hg', hh', r⟩ := hm
  exact ⟨A', n', c', k, L, (hw.block m hlt (fun e => hne (by injection e with e; exact e.symm))).trans hg', hh'.grown hw (hh'.apart hg (rdr_cs _ _ _ _)), r⟩

theorem MRdr.below {w w' : World} {m : Nat} {s : St} (h : MRdr w m s) (hb : Below w.heap.size w w') : MRdr w' m s := by
  have hlt := h.lt
  obtain ⟨A, n, c, k, L, hg, hh, r⟩ := h
  exact ⟨A, n, c, k, L, (hb.block m hlt).trans hg, hh.below hb, r⟩

/-- both readers have the same, and nothing elder than both has turned -/
structure Two (w0 : World) (g m : Nat) (s : St) (w : World) : Prop where
  rr : Rdr w g s
  mm : MRdr w m s
  b : Below w0.heap.size w0 w
  hg : w0.heap.size ≤ g
  hm : w0.heap.size ≤ m

theorem below_grown {w0 w w' : World} {g : Nat} (h : Below w0.heap.size w0 w) (hw : w.grownBy w' (some g)) (hg : w0.heap.size ≤ g) : Below w0.heap.size w0 w' :=
  h.grown hw h.size (by rintro k e; injection e with e; omega)

/-- the program's reader ahead, the document's still behind -/
structure Ahead (w0 : World) (g m : Nat) (s s' : St) (w : World) : Prop where
  rr : Rdr w g s'
  mm : MRdr w m s
  b : Below w0.heap.size w0 w
  hg : w0.heap.size ≤ g
  hm : w0.heap.size ≤ m

theorem Two.ahead {w0 w w' : World} {g m : Nat} {s s' : St} (h : Two w0 g m s w) (hr : Rdr w' g s') (hw : w.grownBy w' (some g)) : Ahead w0 g m s s' w' :=
  ⟨hr, MRdr.other h.rr h.mm hw, below_grown h.b hw h.hg, h.hg, h.hm⟩
theorem Ahead.two {w0 w w' : World} {g m : Nat} {s s' : St} (h : Ahead w0 g m s s' w) (hm : MRdr w' m s') (hw : w.grownBy w' (some m)) : Two w0 g m s' w' :=
  ⟨Rdr.other h.rr h.mm hw, hm, below_grown h.b hw h.hm, h.hg, h.hm⟩

theorem Two.stay {w0 w w' : World} {g m : Nat} {s : St} (h : Two w0 g m s w) (hm : MRdr w' m s) (hw : w.grownBy w' (some m)) : Two w0 g m s w' :=
  ⟨Rdr.other h.rr h.mm hw, hm, below_grown h.b hw h.hm, h.hg, h.hm⟩

/-- what is said of the operations of the two Counts -/
def f19 (g m b off N C k : Nat) (y : Int) (s : St) : Nat → Value → Prop
  | 0, v => v = .pointer (some ⟨g, 0, none⟩)
  | 1, v | 8, v => v = .slice (some ⟨b, off, none⟩) N C
  | 2, v | 9, v => v = .int .i64 (k : Int)
  | 3, v | 10, v => v = .pointer (some ⟨b, off + k * 2, none⟩)
  | 4, v | 11, v => v = .pointer (some ⟨b, off + (k * 2 + 1), none⟩)
  | 5, v | 12, v => v = .int .i64 y
  | 6, v | 13, v => v = .int .i64 (stCount y s).1
  | 7, v => v = .pointer (some ⟨m, 0, none⟩)
  | _, v => v = .bool false
/-- where the two readers are, told by which of the Counts has been called -/
structure J19 (w0 : World) (g m : Nat) (y : Int) (s : St) (ls : Nat → Bool) (w : World) : Prop where
  rr : Rdr w g (if ls 6 then (stCount y s).2 else s)
  mm : MRdr w m (if ls 13 then (stCount y s).2 else s)
  b : Below w0.heap.size w0 w
  hg : w0.heap.size ≤ g
  hm : w0.heap.size ≤ m
theorem J19.keep {w0 w : World} {g m : Nat} {y : Int} {s : St} {ls : Nat → Bool} (h : J19 w0 g m y s ls w) {i : Nat} (h6 : 6 ≠ i) (h13 : 13 ≠ i) : J19 w0 g m y s (updB ls i) w :=
  ⟨by rw [updB_other ls h6]; exact h.rr, by rw [updB_other ls h13]; exact h.mm, h.b, h.hg, h.hm⟩
theorem J19.rd {w0 w : World} {g m : Nat} {y : Int} {s : St} {ls : Nat → Bool} (h : J19 w0 g m y s ls w) (h6 : ls 6 = false) : Rdr w g s := by
  have := h.rr
  rwa [h6] at this
theorem J19.md {w0 w : World} {g m : Nat} {y : Int} {s : St} {ls : Nat → Bool} (h : J19 w0 g m y s ls w) (h13 : ls 13 = false) : MRdr w m s := by
  have := h.mm
  rwa [h13] at this
theorem J19.one {w0 w w' : World} {g m : Nat} {y : Int} {s : St} {ls : Nat → Bool} (h : J19 w0 g m y s ls w) (h6 : ls 6 = false) (hr : Rdr w' g (stCount y s).2) (hw : w.grownBy w' (some g)) : J19 w0 g m y s (updB ls 6) w' :=
  ⟨by rw [updB_at]; exact hr, by rw [updB_other ls (by decide)]; exact MRdr.other (h.rd h6) h.mm hw, below_grown h.b hw h.hg, h.hg, h.hm⟩
theorem J19.two {w0 w w' : World} {g m : Nat} {y : Int} {s : St} {ls : Nat → Bool} (h : J19 w0 g m y s ls w) (h13 : ls 13 = false) (hr : MRdr w' m (stCount y s).2) (hw : w.grownBy w' (some m)) : J19 w0 g m y s (updB ls 13) w' :=
  ⟨by rw [updB_other ls (by decide)]; exact Rdr.other h.rr (h.md h13) hw, by rw [updB_at]; exact hr, below_grown h.b hw h.hm, h.hg, h.hm⟩
/-- what is said of the operations of the last test of a round -/
def f21 (g m : Nat) (s : St) : Nat → Value → Prop
  | 0, v | 8, v | 15, v => v = .pointer (some ⟨g, 0, none⟩)
  | 2, v | 3, v | 10, v | 17, v => v = .pointer (some ⟨m, 0, none⟩)
  | 4, v => v = .pointer (some ⟨m, 2, none⟩)
  | 1, v | 5, v => v = .bool s.isNone
  | 9, v | 11, v => v = .int .i64 ((left s).length : Int)
  | 16, v | 18, v => v = .bool (stDone s)
  | _, v => v = .bool false

set_option maxRecDepth 100000 in
set_option maxHeartbeats 2000000 in
theorem octetReads_walk (A : Option Addr) (n c : Nat) (l : List UInt8) (B : Option Addr) (N C : Nat) (os : List (Int × Int)) (w : World) (h : Hold w A n c l) (hn : n ≤ 281474976710656)
    (hN : os.length = N) (hNs : N ≤ 281474976710656) (hop : 0 < N → ∃ b off, B = some ⟨b, off, none⟩ ∧ ∀ j (hj : j < os.length), w.cell? ⟨b, off + j * 2, none⟩ = some (.int .i64 os[j].1) ∧ w.cell? ⟨b, off + (j * 2 + 1), none⟩ = some (.int .i64 os[j].2))
    (hbd : ∀ o ∈ os, -9223372036854775808 ≤ o.2 ∧ o.2 ≤ 9223372036854775807) :
    Calls Try.prog 4 #[.slice A n c, .slice B N C] w fun e w' => e = .returned (.bool true) ∧ Below w.heap.size w w' := by
  have H := Lib.hid h
  have HN := Lib.hid hN
  have HO := Lib.hid hop
  have HB := Lib.hid hbd
  clear h hN hop hbd
  go_enter Try.func4, Try.ntmps4
  go_wp2_with fail
  refine (read_any A n c l w H.out hn).mono ?_
  rintro e w1 ⟨g, rfl, hr, _, b1, hg, _⟩
  have H1 := Lib.hid (H.out.below b1)
  have HR := Lib.hid hr
  clear hr
  go_wp2_with fail
  have hM : MRdr (w1.alloc (.cells #[.slice A n c, .int .i64 0, .bool false] 34)) w1.heap.size (some l) := by
    refine ⟨A, n, c, 0, l, heap_at _ _ _ rfl, H1.out.below ((Below.refl _ _).alloc (Nat.le_refl _) _), Nat.zero_le _, hn, ?_⟩
    intro l' hl'
    injection hl' with hl'
  have hT : Two w g w1.heap.size (some l) (w1.alloc (.cells #[.slice A n c, .int .i64 0, .bool false] 34)) :=
    ⟨HR.out.below ((Below.refl _ _).alloc (Nat.le_refl _) _), hM, b1.alloc b1.size _, hg, b1.size⟩
  have HT := Lib.hid hT
  clear hM hT HR H1
  refine (awake_any _).mono ?_
  rintro e w2 ⟨rfl, b2⟩
  have hT2 : Two w g w1.heap.size (some l) w2 := ⟨HT.out.rr.below b2, HT.out.mm.below b2, HT.out.b.trans (b2.mono HT.out.b.size), HT.out.hg, HT.out.hm⟩
  generalize w1.heap.size = m at *
  clear HT b2 b1
  go_wp2_with fail
  go_loopw [7] (fun i wr => ∃ (k : Nat) (s : St), k ≤ N ∧ i = .int .i64 k ∧ Two w g m s wr) (fun i _ => N - (intOf i).toNat)
  case atStart => exact ⟨0, _, Nat.zero_le _, rfl, hT2⟩
  case round =>
    obtain ⟨k, s, hk, rfl, hT⟩ := hrel
    clear hT2
    by_cases hlt : k < N
    · obtain ⟨b, off, rfl, hcs⟩ := HO.out (by omega)
      have hkl : k < os.length := by rw [HN.out]; exact hlt
      obtain ⟨ck0, ck1⟩ := hcs k hkl
      have cw1 := ck1
      have ck0 := cell_later hT.b ck0
      have ck1 := cell_later hT.b ck1
      obtain ⟨hy1, hy2⟩ := HB.out _ (List.getElem_mem hkl)
      generalize os[k].1 = x at *
      generalize os[k].2 = y at *
      have CW := Lib.hid cw1
      clear cw1
      clear hcs
      have HT := Lib.hid hT
      clear hT
      go_upto_block 2 with (fail)
      go_cut [] (fun wx => ∃ s', Two w g m s' wx)
      case first =>
        go_wp2_with (first
          | (go_at_call 17; refine (int_any g s wr HT.out.rr).mono ?_; rintro e w3 ⟨rfl, hr3, hg3⟩; have A3 := Lib.hid (HT.out.ahead hr3 hg3); clear hr3 hg3)
          | (go_at_call 18; refine (mint_any m s w3 A3.out.mm).mono ?_; rintro e w4 ⟨rfl, hr4, hg4⟩; have A4 := Lib.hid (A3.out.two hr4 hg4); clear hr4 hg4)
          | (go_at_call 19; refine (text_any g s wr HT.out.rr).mono ?_; rintro e w3 ⟨rfl, hr3, hg3⟩; have A3 := Lib.hid (HT.out.ahead hr3 hg3); clear hr3 hg3)
          | (go_at_call 20; refine (mtext_any m s w3 A3.out.mm).mono ?_; rintro e w4 ⟨rfl, hr4, hg4⟩; have A4 := Lib.hid (A3.out.two hr4 hg4); clear hr4 hg4)
          | (go_at_call 21; refine (bool_any g s wr HT.out.rr).mono ?_; rintro e w3 ⟨rfl, hr3, hg3⟩; have A3 := Lib.hid (HT.out.ahead hr3 hg3); clear hr3 hg3)
          | (go_at_call 22; refine (mbool_any m s w3 A3.out.mm).mono ?_; rintro e w4 ⟨rfl, hr4, hg4⟩; have A4 := Lib.hid (A3.out.two hr4 hg4); clear hr4 hg4))
        · go_meet
          exact ⟨_, A4.out⟩
        · go_meet
          exact ⟨_, A4.out⟩
        · go_meet
          exact ⟨_, A4.out⟩
        · have cw1 := CW.out
          refine wp_region_stepsJ (fun i v _ => f19 g m b off N C k y s i v) (fun _ _ => True) (J19 w g m y s) (by kernel_rfl) (by kernel_rfl) (fun _ => trivial) (fun _ _ _ _ h _ => h) ⟨HT.out.rr, HT.out.mm, HT.out.b.drew, HT.out.hg, HT.out.hm⟩ ?_ ?_
          · refine ⟨?_, ?_, ?_, ?_, ?_, ?_, ?_, ?_, ?_, ?_, ?_, ?_, ?_, ?_, ?_, trivial⟩
            · intro a w5 ls hJ hi hd hoff hf
              left
              refine ⟨rfl, ?_⟩
              have e5 : a.tmps.getD 5 undef = .pointer (some ⟨g, 0, none⟩) := hoff.slot 5 (no_dst (by kernel_rfl))
              go_simp
              exact ⟨_, rfl, rfl, trivial, hJ.keep (by decide) (by decide)⟩
            · intro a w5 ls hJ hi hd hoff hf
              left
              refine ⟨rfl, ?_⟩
              have e1 : a.tmps.getD 1 undef = .slice (some ⟨b, off, none⟩) N C := hoff.slot 1 (no_dst (by kernel_rfl))
              go_simp
              exact ⟨_, rfl, rfl, trivial, hJ.keep (by decide) (by decide)⟩
            · intro a w5 ls hJ hi hd hoff hf
              left
              refine ⟨rfl, ?_⟩
              have e7 : a.tmps.getD 7 undef = .int .i64 (k : Int) := hoff.slot 7 (no_dst (by kernel_rfl))
              go_simp
              exact ⟨_, rfl, rfl, trivial, hJ.keep (by decide) (by decide)⟩
            · intro a w5 ls hJ hi hd hoff hf
              left
              refine ⟨rfl, ?_⟩
              have e61 : a.tmps.getD 61 undef = .slice (some ⟨b, off, none⟩) N C := hf 1 _ (hd 1 rfl) rfl
              have e62 : a.tmps.getD 62 undef = .int .i64 (k : Int) := hf 2 _ (hd 2 rfl) rfl
              go_simp
              exact ⟨_, rfl, rfl, trivial, hJ.keep (by decide) (by decide)⟩
            · intro a w5 ls hJ hi hd hoff hf
              left
              refine ⟨rfl, ?_⟩
              have e63 : a.tmps.getD 63 undef = .pointer (some ⟨b, off + k * 2, none⟩) := hf 3 _ (hd 3 rfl) rfl
              go_simp
              exact ⟨_, rfl, rfl, trivial, hJ.keep (by decide) (by decide)⟩
            · intro a w5 ls hJ hi hd hoff hf
              left
              refine ⟨rfl, ?_⟩
              have e64 : a.tmps.getD 64 undef = .pointer (some ⟨b, off + (k * 2 + 1), none⟩) := hf 4 _ (hd 4 rfl) rfl
              have cy := cell_later hJ.b cw1
              go_simp
              exact ⟨_, rfl, rfl, trivial, hJ.keep (by decide) (by decide)⟩
            · intro a w5 ls hJ hi hd hoff hf
              left
              refine ⟨rfl, ?_⟩
              have e60 : a.tmps.getD 60 undef = .pointer (some ⟨g, 0, none⟩) := hf 0 _ (hd 0 rfl) rfl
              have e65 : a.tmps.getD 65 undef = .int .i64 y := hf 5 _ (hd 5 rfl) rfl
              go_simp
              refine (count_any g y s w5 (hJ.rd hi) hy1 hy2).mono ?_
              rintro e w6 ⟨rfl, hr6, hg6⟩
              exact ⟨_, rfl, rfl, trivial, hJ.one hi hr6 hg6⟩
            · intro a w5 ls hJ hi hd hoff hf
              left
              refine ⟨rfl, ?_⟩
              have e6 : a.tmps.getD 6 undef = .pointer (some ⟨m, 0, none⟩) := hoff.slot 6 (no_dst (by kernel_rfl))
              go_simp
              exact ⟨_, rfl, rfl, trivial, hJ.keep (by decide) (by decide)⟩
            · intro a w5 ls hJ hi hd hoff hf
              left
              refine ⟨rfl, ?_⟩
              have e1 : a.tmps.getD 1 undef = .slice (some ⟨b, off, none⟩) N C := hoff.slot 1 (no_dst (by kernel_rfl))
              go_simp
              exact ⟨_, rfl, rfl, trivial, hJ.keep (by decide) (by decide)⟩
            · intro a w5 ls hJ hi hd hoff hf
              left
              refine ⟨rfl, ?_⟩
              have e7 : a.tmps.getD 7 undef = .int .i64 (k : Int) := hoff.slot 7 (no_dst (by kernel_rfl))
              go_simp
              exact ⟨_, rfl, rfl, trivial, hJ.keep (by decide) (by decide)⟩
            · intro a w5 ls hJ hi hd hoff hf
              left
              refine ⟨rfl, ?_⟩
              have e68 : a.tmps.getD 68 undef = .slice (some ⟨b, off, none⟩) N C := hf 8 _ (hd 8 rfl) rfl
              have e69 : a.tmps.getD 69 undef = .int .i64 (k : Int) := hf 9 _ (hd 9 rfl) rfl
              go_simp
              exact ⟨_, rfl, rfl, trivial, hJ.keep (by decide) (by decide)⟩
            · intro a w5 ls hJ hi hd hoff hf
              left
              refine ⟨rfl, ?_⟩
              have e70 : a.tmps.getD 70 undef = .pointer (some ⟨b, off + k * 2, none⟩) := hf 10 _ (hd 10 rfl) rfl
              go_simp
              exact ⟨_, rfl, rfl, trivial, hJ.keep (by decide) (by decide)⟩
            · intro a w5 ls hJ hi hd hoff hf
              left
              refine ⟨rfl, ?_⟩
              have e71 : a.tmps.getD 71 undef = .pointer (some ⟨b, off + (k * 2 + 1), none⟩) := hf 11 _ (hd 11 rfl) rfl
              have cy := cell_later hJ.b cw1
              go_simp
              exact ⟨_, rfl, rfl, trivial, hJ.keep (by decide) (by decide)⟩
            · intro a w5 ls hJ hi hd hoff hf
              left
              refine ⟨rfl, ?_⟩
              have e67 : a.tmps.getD 67 undef = .pointer (some ⟨m, 0, none⟩) := hf 7 _ (hd 7 rfl) rfl
              have e72 : a.tmps.getD 72 undef = .int .i64 y := hf 12 _ (hd 12 rfl) rfl
              go_simp
              refine (mcount_any m y s w5 (hJ.md hi) hy1 hy2).mono ?_
              rintro e w6 ⟨rfl, hr6, hg6⟩
              exact ⟨_, rfl, rfl, trivial, hJ.two hi hr6 hg6⟩
            · intro a w5 ls hJ hi hd hoff hf
              left
              refine ⟨rfl, ?_⟩
              have e66 : a.tmps.getD 66 undef = .int .i64 (stCount y s).1 := hf 6 _ (hd 6 rfl) rfl
              have e73 : a.tmps.getD 73 undef = .int .i64 (stCount y s).1 := hf 13 _ (hd 13 rfl) rfl
              go_simp
              exact ⟨_, rfl, rfl, trivial, hJ.keep (by decide) (by decide)⟩
          · intro a w5 ls hall hJ hoff hf
            have e74 : a.tmps.getD 74 undef = .bool false := hf 14 _ rfl
            have hrr := hJ.rr
            have hmm := hJ.mm
            rw [hall 6 (by decide)] at hrr
            rw [hall 13 (by decide)] at hmm
            have hT5 : Two w g m (stCount y s).2 w5 := ⟨hrr, hmm, hJ.b, hJ.hg, hJ.hm⟩
            obtain ⟨ys, hys, ha⟩ := off_form hoff (mask := [false, false, false, false, false, false, false, false, false, false, false, false, false, false, false, false, false, false, false, false, false, false, false, false, false, false, false, false, false, false, false, false, false, false, false, false, false, false, false, false, false, false, false, false, false, false, false, false, false, false, false, false, false, false, false, false, false, false, false, false, true, true, true, true, true, true, true, true, true, true, true, true, true, true, true, false, false, false, false, false, false, false, false, false, false, false, false, false, false, false, false, false, false, false, false, false]) (by kernel_rfl)
            rw [hys] at e74
            clear hf hoff hys
            subst ha
            simp only [fillFrom, e74]
            go_wp2
            go_meet
            exact ⟨_, hT5⟩
        · go_meet
          exact ⟨_, HT.out⟩
      case rest =>
        obtain ⟨s', hT'⟩ := hcut
        go_wp2_with fail
        refine wp_region_stepsJ (fun i v _ => f21 g m s' i v) (fun _ _ => True) (fun _ w5 => Two w g m s' w5) (by kernel_rfl) (by kernel_rfl) (fun _ => trivial) (fun _ _ _ _ h _ => h) ⟨hT'.rr, hT'.mm, hT'.b.drew, hT'.hg, hT'.hm⟩ ?_ ?_
        · refine ⟨?_, ?_, ?_, ?_, ?_, ?_, ?_, ?_, ?_, ?_, ?_, ?_, ?_, ?_, ?_, ?_, ?_, ?_, ?_, ?_, ?_, trivial⟩
          · intro a w5 ls hJ hi hd hoff hf
            left
            refine ⟨rfl, ?_⟩
            have e5 : a.tmps.getD 5 undef = .pointer (some ⟨g, 0, none⟩) := hoff.slot 5 (no_dst (by kernel_rfl))
            go_simp
            exact ⟨_, rfl, rfl, trivial, hJ⟩
          · intro a w5 ls hJ hi hd hoff hf
            left
            refine ⟨rfl, ?_⟩
            have e75 : a.tmps.getD 75 undef = .pointer (some ⟨g, 0, none⟩) := hf 0 _ (hd 0 rfl) rfl
            go_simp
            refine (bad_any g s' w5 hJ.rr).mono ?_
            rintro e w6 ⟨rfl, rfl⟩
            exact ⟨_, rfl, rfl, trivial, hJ⟩
          · intro a w5 ls hJ hi hd hoff hf
            left
            refine ⟨rfl, ?_⟩
            have e6 : a.tmps.getD 6 undef = .pointer (some ⟨m, 0, none⟩) := hoff.slot 6 (no_dst (by kernel_rfl))
            go_simp
            exact ⟨_, rfl, rfl, trivial, hJ⟩
          · intro a w5 ls hJ hi hd hoff hf
            left
            refine ⟨rfl, ?_⟩
            have e77 : a.tmps.getD 77 undef = .pointer (some ⟨m, 0, none⟩) := hf 2 _ (hd 2 rfl) rfl
            go_simp
            exact ⟨_, rfl, rfl, trivial, hJ⟩
          · intro a w5 ls hJ hi hd hoff hf
            left
            refine ⟨rfl, ?_⟩
            have e78 : a.tmps.getD 78 undef = .pointer (some ⟨m, 0, none⟩) := hf 3 _ (hd 3 rfl) rfl
            go_simp
            exact ⟨_, rfl, rfl, trivial, hJ⟩
          · intro a w5 ls hJ hi hd hoff hf
            left
            refine ⟨rfl, ?_⟩
            have e79 : a.tmps.getD 79 undef = .pointer (some ⟨m, 2, none⟩) := hf 4 _ (hd 4 rfl) rfl
            obtain ⟨c2, _⟩ := mcells hJ.mm
            go_simp
            exact ⟨_, rfl, rfl, trivial, hJ⟩
          · intro a w5 ls hJ hi hd hoff hf
            left
            refine ⟨rfl, ?_⟩
            have e76 : a.tmps.getD 76 undef = .bool s'.isNone := hf 1 _ (hd 1 rfl) rfl
            have e80 : a.tmps.getD 80 undef = .bool s'.isNone := hf 5 _ (hd 5 rfl) rfl
            go_simp
            exact ⟨_, rfl, rfl, trivial, hJ⟩
          · intro a w5 ls hJ hi hd hoff hf
            left
            refine ⟨rfl, ?_⟩
            have e81 : a.tmps.getD 81 undef = .bool false := hf 6 _ (hd 6 rfl) rfl
            go_simp
            exact ⟨_, rfl, rfl, trivial, hJ⟩
          · intro a w5 ls hJ hi hd hoff hf
            left
            have e82 : a.tmps.getD 82 undef = .bool false := hf 7 _ (hd 7 rfl) rfl
            refine ⟨wanted_of (ops := _) (j := 7) (b := false) rfl rfl rfl e82, ?_⟩
            have e5 : a.tmps.getD 5 undef = .pointer (some ⟨g, 0, none⟩) := hoff.slot 5 (no_dst (by kernel_rfl))
            go_simp
            exact ⟨_, rfl, rfl, trivial, hJ⟩
          · intro a w5 ls hJ hi hd hoff hf
            left
            have e82 : a.tmps.getD 82 undef = .bool false := hf 7 _ (hd 7 rfl) rfl
            refine ⟨wanted_of (ops := _) (j := 7) (b := false) rfl rfl rfl e82, ?_⟩
            have e83 : a.tmps.getD 83 undef = .pointer (some ⟨g, 0, none⟩) := hf 8 _ (hd 8 rfl) rfl
            go_simp
            refine (left_any g s' w5 hJ.rr).mono ?_
            rintro e w6 ⟨rfl, rfl⟩
            exact ⟨_, rfl, rfl, trivial, hJ⟩
          · intro a w5 ls hJ hi hd hoff hf
            left
            have e82 : a.tmps.getD 82 undef = .bool false := hf 7 _ (hd 7 rfl) rfl
            refine ⟨wanted_of (ops := _) (j := 7) (b := false) rfl rfl rfl e82, ?_⟩
            have e6 : a.tmps.getD 6 undef = .pointer (some ⟨m, 0, none⟩) := hoff.slot 6 (no_dst (by kernel_rfl))
            go_simp
            exact ⟨_, rfl, rfl, trivial, hJ⟩
          · intro a w5 ls hJ hi hd hoff hf
            left
            have e82 : a.tmps.getD 82 undef = .bool false := hf 7 _ (hd 7 rfl) rfl
            refine ⟨wanted_of (ops := _) (j := 7) (b := false) rfl rfl rfl e82, ?_⟩
            have e85 : a.tmps.getD 85 undef = .pointer (some ⟨m, 0, none⟩) := hf 10 _ (hd 10 rfl) rfl
            go_simp
            refine (mleft_any m s' w5 hJ.mm).mono ?_
            rintro e w6 ⟨rfl, hr6, hg6⟩
            exact ⟨_, rfl, rfl, trivial, hJ.stay hr6 hg6⟩
          · intro a w5 ls hJ hi hd hoff hf
            left
            have e82 : a.tmps.getD 82 undef = .bool false := hf 7 _ (hd 7 rfl) rfl
            refine ⟨wanted_of (ops := _) (j := 7) (b := false) rfl rfl rfl e82, ?_⟩
            have e84 : a.tmps.getD 84 undef = .int .i64 ((left s').length : Int) := hf 9 _ (hd 9 rfl) rfl
            have e86 : a.tmps.getD 86 undef = .int .i64 ((left s').length : Int) := hf 11 _ (hd 11 rfl) rfl
            go_simp
            exact ⟨_, rfl, rfl, trivial, hJ⟩
          · intro a w5 ls hJ hi hd hoff hf
            left
            refine ⟨rfl, ?_⟩
            have e82 : a.tmps.getD 82 undef = .bool false := hf 7 _ (hd 7 rfl) rfl
            have e87 : a.tmps.getD 87 undef = .bool false := hf 12 _ (hd 12 rfl) rfl
            go_simp
            exact ⟨_, rfl, rfl, trivial, hJ⟩
          · intro a w5 ls hJ hi hd hoff hf
            left
            refine ⟨rfl, ?_⟩
            have e88 : a.tmps.getD 88 undef = .bool false := hf 13 _ (hd 13 rfl) rfl
            go_simp
            exact ⟨_, rfl, rfl, trivial, hJ⟩
          · intro a w5 ls hJ hi hd hoff hf
            left
            have e89 : a.tmps.getD 89 undef = .bool false := hf 14 _ (hd 14 rfl) rfl
            refine ⟨wanted_of (ops := _) (j := 14) (b := false) rfl rfl rfl e89, ?_⟩
            have e5 : a.tmps.getD 5 undef = .pointer (some ⟨g, 0, none⟩) := hoff.slot 5 (no_dst (by kernel_rfl))
            go_simp
            exact ⟨_, rfl, rfl, trivial, hJ⟩
          · intro a w5 ls hJ hi hd hoff hf
            left
            have e89 : a.tmps.getD 89 undef = .bool false := hf 14 _ (hd 14 rfl) rfl
            refine ⟨wanted_of (ops := _) (j := 14) (b := false) rfl rfl rfl e89, ?_⟩
            have e90 : a.tmps.getD 90 undef = .pointer (some ⟨g, 0, none⟩) := hf 15 _ (hd 15 rfl) rfl
            go_simp
            refine (done_any g s' w5 hJ.rr).mono ?_
            rintro e w6 ⟨rfl, rfl⟩
            exact ⟨_, rfl, rfl, trivial, hJ⟩
          · intro a w5 ls hJ hi hd hoff hf
            left
            have e89 : a.tmps.getD 89 undef = .bool false := hf 14 _ (hd 14 rfl) rfl
            refine ⟨wanted_of (ops := _) (j := 14) (b := false) rfl rfl rfl e89, ?_⟩
            have e6 : a.tmps.getD 6 undef = .pointer (some ⟨m, 0, none⟩) := hoff.slot 6 (no_dst (by kernel_rfl))
            go_simp
            exact ⟨_, rfl, rfl, trivial, hJ⟩
          · intro a w5 ls hJ hi hd hoff hf
            left
            have e89 : a.tmps.getD 89 undef = .bool false := hf 14 _ (hd 14 rfl) rfl
            refine ⟨wanted_of (ops := _) (j := 14) (b := false) rfl rfl rfl e89, ?_⟩
            have e92 : a.tmps.getD 92 undef = .pointer (some ⟨m, 0, none⟩) := hf 17 _ (hd 17 rfl) rfl
            go_simp
            refine (mdone_any m s' w5 hJ.mm).mono ?_
            rintro e w6 ⟨rfl, hr6, hg6⟩
            exact ⟨_, rfl, rfl, trivial, hJ.stay hr6 hg6⟩
          · intro a w5 ls hJ hi hd hoff hf
            left
            have e89 : a.tmps.getD 89 undef = .bool false := hf 14 _ (hd 14 rfl) rfl
            refine ⟨wanted_of (ops := _) (j := 14) (b := false) rfl rfl rfl e89, ?_⟩
            have e91 : a.tmps.getD 91 undef = .bool (stDone s') := hf 16 _ (hd 16 rfl) rfl
            have e93 : a.tmps.getD 93 undef = .bool (stDone s') := hf 18 _ (hd 18 rfl) rfl
            go_simp
            exact ⟨_, rfl, rfl, trivial, hJ⟩
          · intro a w5 ls hJ hi hd hoff hf
            left
            refine ⟨rfl, ?_⟩
            have e89 : a.tmps.getD 89 undef = .bool false := hf 14 _ (hd 14 rfl) rfl
            have e94 : a.tmps.getD 94 undef = .bool false := hf 19 _ (hd 19 rfl) rfl
            go_simp
            exact ⟨_, rfl, rfl, trivial, hJ⟩
        · intro a w5 ls hall hJ hoff hf
          have e95 : a.tmps.getD 95 undef = .bool false := hf 20 _ rfl
          obtain ⟨ys, hys, ha⟩ := off_form hoff (mask := [false, false, false, false, false, false, false, false, false, false, false, false, false, false, false, false, false, false, false, false, false, false, false, false, false, false, false, false, false, false, false, false, false, false, false, false, false, false, false, false, false, false, false, false, false, false, false, false, false, false, false, false, false, false, false, false, false, false, false, false, false, false, false, false, false, false, false, false, false, false, false, false, false, false, false, true, true, true, true, true, true, true, true, true, true, true, true, true, true, true, true, true, true, true, true, true]) (by kernel_rfl)
          rw [hys] at e95
          clear hf hoff hys
          subst ha
          simp only [fillFrom, e95]
          go_wp2
          go_roundw
          case rel => exact ⟨k + 1, s', by omega, by go_num, hJ⟩
          case measure => simp [intOf]; omega
    · obtain rfl : k = N := by omega
      go_wp2
      go_ret
      exact ⟨rfl, hT.b⟩
end Go.Proofs.Ytoidbpkclaebpaa
