/-
  What is proved: what the document's SameLists answers of the same lists. Conditions: the lists lie in memory as they must.
-/
import Derived.Test.YtkghjgpeobacjaaJl
namespace Go.Proofs.Ytkghjgpeobacjaa
open Go.RowKit

theorem Rows0.drew {w : World} {B : Option Addr} {N : Nat} {ps : List Part} (h : Rows0 w B N ps) : Rows0 w.drew B N ps := h
/-- frames, as a list of parts -/
theorem Frames.rows {base : Nat} {w : World} {fs : List (List UInt8)} {B : Option Addr} {N C : Nat} (h : Frames base w fs (.slice B N C)) (hN : N = fs.length) : ∃ ps, Rows0 w B N ps ∧ ps.map (·.2.2.2) = fs := by
  obtain ⟨ps, ⟨h1, h2⟩, h3⟩ := h
  have hl : ps.length = fs.length := by rw [← h1]; simp
  refine ⟨ps, ⟨by omega, fun p hp => ?_, fun h0 => ?_⟩, h1⟩
  · exact Hold.of_own (h2 p hp)
  · rcases h3.2 with ⟨_, h0'⟩ | ⟨Q, cap, cur, hv, hb, hg, k1, k2, k3, k4⟩
    · omega
    · injection hv with e1 e2 e3
      subst e1
      refine ⟨Q, 0, rfl, fun j hj => ?_⟩
      have := h3.cells (g := Q) rfl j ps[j].val (by simp [hj])
      rwa [Addr.add_lit] at this

def slF (b off b2 off2 k N C C2 : Nat) (p p2 : Part) (x : List UInt8) : Nat → Value → World → Prop
  | 0, v, _ => v = .slice (some ⟨b, off, none⟩) N C
  | 1, v, _ | 6, v, _ => v = .int .i64 (k : Int)
  | 2, v, _ => v = .pointer (some ⟨b, off + k, none⟩)
  | 3, v, _ => v = p.val
  | 4, v, _ | 9, v, _ => v = .string ⟨x.toArray⟩
  | 5, v, _ => v = .slice (some ⟨b2, off2, none⟩) N C2
  | 7, v, _ => v = .pointer (some ⟨b2, off2 + k, none⟩)
  | 8, v, _ => v = p2.val
  | _, v, _ => v = .bool false
theorem slF_mono {b off b2 off2 k N C C2 : Nat} {p p2 : Part} {x : List UInt8} (i : Nat) (v : Value) (w w' : World) (h : slF b off b2 off2 k N C C2 p p2 x i v w) : slF b off b2 off2 k N C C2 p p2 x i v w' := by
  unfold slF at *
  split at h <;> exact h

set_option maxRecDepth 100000 in
set_option maxHeartbeats 1000000 in
theorem same_any (w : World) (B B2 : Option Addr) (N C C2 : Nat) (ps ps2 : List Part) (h : Rows0 w B N ps) (h2 : Rows0 w B2 N ps2) (heq : ps.map (·.2.2.2) = ps2.map (·.2.2.2)) (hN : N ≤ 140737488355328) :
    Calls Try.prog 19 #[.slice B N C, .slice B2 N C2] w fun e w' => e = .returned (.bool true) ∧ Below w.heap.size w w' := by
  have H := Lib.hid h
  have H2 := Lib.hid h2
  have HE := Lib.hid heq
  clear h h2 heq
  go_enter Try.func19, Try.ntmps19
  go_wp2_with fail
  go_loopw [5] (fun i wr => ∃ k : Nat, k ≤ N ∧ i = .int .i64 (k : Int) ∧ Below w.heap.size w wr) (fun i _ => N - (intOf i).toNat)
  case atStart => exact ⟨0, by omega, rfl, Below.refl _ _⟩
  case round =>
    obtain ⟨k, hk, rfl, hb⟩ := hrel
    have HB := Lib.hid hb
    clear hb
    by_cases hlt : k < N
    · obtain ⟨b, off, hl, rfl, hc, hh⟩ := (H.out.below HB.out).at hlt
      obtain ⟨b2, off2, hl2, rfl, hc2, hh2⟩ := (H2.out.below HB.out).at hlt
      have hx : ps[k].2.2.2 = ps2[k].2.2.2 := by
        have := congrArg (·[k]?) HE.out
        simpa [hl, hl2] using this
      rw [← hx] at hh2
      generalize ps[k].2.2.2 = x at *
      generalize ps[k] = p at *
      generalize ps2[k] = p2 at *
      have HC := Lib.hid (show wr.drew.cell? ⟨b, off + k, none⟩ = some p.val from hc)
      have HC2 := Lib.hid (show wr.drew.cell? ⟨b2, off2 + k, none⟩ = some p2.val from hc2)
      have HH := Lib.hid hh.drew
      have HH2 := Lib.hid hh2.drew
      clear hc hc2 hh hh2 hx
      have hk0 : (0 : Int) ≤ (k : Int) := Int.natCast_nonneg _
      have hk1 : (k : Int) < (N : Int) := by omega
      go_wp2_with fail
      refine wp_region_steps (slF b off b2 off2 k N C C2 p p2 x) (fun w w' => Below w.heap.size w w') (by kernel_rfl) (by kernel_rfl) (fun w => Below.refl _ _) (fun _ _ _ h k => h.trans (k.mono h.size)) (fun i v w w' h _ => slF_mono i v w w' h) ?_ ?_
      · refine ⟨?_, ?_, ?_, ?_, ?_, ?_, ?_, ?_, ?_, ?_, ?_, trivial⟩
        · intro a W hR hoff hd
          left
          refine ⟨rfl, ?_⟩
          have e0 : a.tmps.getD 0 undef = .slice (some ⟨b, off, none⟩) N C := hoff.slot 0 (no_dst (by kernel_rfl))
          go_simp
          exact ⟨_, rfl, rfl, Below.refl _ _⟩
        · intro a W hR hoff hd
          left
          refine ⟨rfl, ?_⟩
          have e0 : a.tmps.getD 5 undef = .int .i64 (k : Int) := hoff.slot 5 (no_dst (by kernel_rfl))
          go_simp
          exact ⟨_, rfl, rfl, Below.refl _ _⟩
        · intro a W hR hoff hd
          left
          refine ⟨rfl, ?_⟩
          have e0 : a.tmps.getD 17 undef = .slice (some ⟨b, off, none⟩) N C := hd 0 _ rfl rfl
          have e1 : a.tmps.getD 18 undef = .int .i64 (k : Int) := hd 1 _ rfl rfl
          go_simp
          exact ⟨_, rfl, rfl, Below.refl _ _⟩
        · intro a W hR hoff hd
          left
          refine ⟨rfl, ?_⟩
          have e0 : a.tmps.getD 19 undef = .pointer (some ⟨b, off + k, none⟩) := hd 2 _ rfl rfl
          have cl := cell_later hR HC.out
          go_simp
          exact ⟨_, rfl, rfl, Below.refl _ _⟩
        · intro a W hR hoff hd
          left
          refine ⟨rfl, ?_⟩
          have e0 : a.tmps.getD 20 undef = .slice p.1 p.2.1 p.2.2.1 := hd 3 _ rfl rfl
          have cv := conv_hold (HH.out.below hR)
          go_simp
          exact ⟨_, rfl, rfl, Below.refl _ _⟩
        · intro a W hR hoff hd
          left
          refine ⟨rfl, ?_⟩
          have e0 : a.tmps.getD 1 undef = .slice (some ⟨b2, off2, none⟩) N C2 := hoff.slot 1 (no_dst (by kernel_rfl))
          go_simp
          exact ⟨_, rfl, rfl, Below.refl _ _⟩
        · intro a W hR hoff hd
          left
          refine ⟨rfl, ?_⟩
          have e0 : a.tmps.getD 5 undef = .int .i64 (k : Int) := hoff.slot 5 (no_dst (by kernel_rfl))
          go_simp
          exact ⟨_, rfl, rfl, Below.refl _ _⟩
        · intro a W hR hoff hd
          left
          refine ⟨rfl, ?_⟩
          have e0 : a.tmps.getD 22 undef = .slice (some ⟨b2, off2, none⟩) N C2 := hd 5 _ rfl rfl
          have e1 : a.tmps.getD 23 undef = .int .i64 (k : Int) := hd 6 _ rfl rfl
          go_simp
          exact ⟨_, rfl, rfl, Below.refl _ _⟩
        · intro a W hR hoff hd
          left
          refine ⟨rfl, ?_⟩
          have e0 : a.tmps.getD 24 undef = .pointer (some ⟨b2, off2 + k, none⟩) := hd 7 _ rfl rfl
          have cl := cell_later hR HC2.out
          go_simp
          exact ⟨_, rfl, rfl, Below.refl _ _⟩
        · intro a W hR hoff hd
          left
          refine ⟨rfl, ?_⟩
          have e0 : a.tmps.getD 25 undef = .slice p2.1 p2.2.1 p2.2.2.1 := hd 8 _ rfl rfl
          have cv := conv_hold (HH2.out.below hR)
          go_simp
          exact ⟨_, rfl, rfl, Below.refl _ _⟩
        · intro a W hR hoff hd
          left
          refine ⟨rfl, ?_⟩
          have e0 : a.tmps.getD 21 undef = .string ⟨x.toArray⟩ := hd 4 _ rfl rfl
          have e1 : a.tmps.getD 26 undef = .string ⟨x.toArray⟩ := hd 9 _ rfl rfl
          go_simp
          exact ⟨_, rfl, rfl, Below.refl _ _⟩
      · intro a W hR hoff hf
        have e27 : a.tmps.getD 27 undef = .bool false := hf 10 _ rfl
        have HBW := Lib.hid (HB.out.drew.trans (hR.mono HB.out.size))
        obtain ⟨ys, hys, ha⟩ := off_form hoff (mask := [false, false, false, false, false, false, false, false, false, false, false, false, false, false, false, false, false, true, true, true, true, true, true, true, true, true, true, true]) (by kernel_rfl)
        rw [hys] at e27
        rename_i hK
        subst ha
        refine hK _ _ ?_
        clear hf hoff hys hR HB
        simp only [fillFrom, e27, Nat.zero_add, Nat.reduceAdd]
        go_wp2_with fail
        go_roundw
        case rel => exact ⟨k + 1, by omega, by go_num, HBW.out⟩
        case measure => simp [intOf]; omega
    · go_wp2_with fail
      go_ret
      exact ⟨rfl, HB.out⟩
end Go.Proofs.Ytkghjgpeobacjaa
