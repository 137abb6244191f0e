/-
  What is proved: what the journal's 'split' answers: the frames of bytes, each in memory of its own, or that they aren't frames alone. Conditions: the bytes lie in memory as they must, and are no more than 2^40.
-/
import Derived.Test.YtbfhlleipeipbaaJf
namespace Go.Proofs.Ytbfhlleipeipbaa
open Go.RowKit

theorem first_no {A : Option Addr} {n c : Nat} {l : List UInt8} {w : World} (h : Hold w A n c l) (hn : n ≤ 1099511627776) (hf : firstOf l = none) :
    Calls Try.prog 88 #[.slice A n c] w fun e w' => ∃ A' n' c', e = .returned (.tuple #[.slice A' n' c', .bool false]) ∧ Below w.heap.size w w' := by
  refine (first_any A n c l w h hn).mono ?_
  intro e w' hp
  unfold FirstPost at hp
  unfold firstOf at hf
  by_cases hb : badLen l
  · rw [if_pos hb] at hp
    exact ⟨_, _, _, hp.1, hp.2⟩
  · rw [if_neg hb] at hp hf
    obtain ⟨ad, c', rfl, _, hb'⟩ := hp
    split at hf
    · cases hf
    · rename_i hs
      exact ⟨some ad, (bodyOf l).length, c', by simp [hs], hb'⟩
theorem first_yes {A : Option Addr} {n c : Nat} {l f : List UInt8} {w : World} (h : Hold w A n c l) (hn : n ≤ 1099511627776) (hf : firstOf l = some f) :
    Calls Try.prog 88 #[.slice A n c] w fun e w' => ∃ ad c', e = .returned (.tuple #[.slice (some ad) f.length c', .bool true]) ∧ Hold w' (some ad) f.length c' f ∧ Below w.heap.size w w' := by
  refine (first_any A n c l w h hn).mono ?_
  intro e w' hp
  obtain ⟨hb, rfl, hs⟩ := firstOf_some hf
  unfold FirstPost at hp
  rw [if_neg hb] at hp
  obtain ⟨ad, c', rfl, hh, hb'⟩ := hp
  exact ⟨ad, c', by simp [hs], hh, hb'⟩

/-- rows of bytes of a call's own -/
def PartsOwn (base : Nat) (w : World) (ps : List Part) (fs : List (List UInt8)) : Prop :=
  ps.map (·.2.2.2) = fs ∧ ∀ p ∈ ps, w.ownsRow base 5 1 p.val p.2.1 (bv p.2.2.2)
def SplitRel (w : World) (l : List UInt8) (b fr : Value) (wr : World) : Prop :=
  ∃ A n c r fs ps, b = .slice A n c ∧ Hold w A n c r ∧ splitOf l = (splitOf r).map (fs ++ ·) ∧ wr.ownsRow w.heap.size 43 1 fr ps.length (ps.map Part.val) ∧ PartsOwn w.heap.size wr ps fs ∧ ps.length * 16 + n ≤ l.length ∧ Below w.heap.size w wr
/-- what is answered: a slice of frames -/
def Frames (base : Nat) (w : World) (fs : List (List UInt8)) (v : Value) : Prop :=
  ∃ ps, PartsOwn base w ps fs ∧ w.ownsRow base 43 1 v fs.length (ps.map Part.val)
def SplitPost (w : World) (l : List UInt8) (e : Ending) (w' : World) : Prop :=
  match splitOf l with
  | none => e = .returned (.tuple #[.slice none 0 0, .bool false]) ∧ Below w.heap.size w w'
  | some fs => ∃ B C, e = .returned (.tuple #[.slice B fs.length C, .bool true]) ∧ Frames w.heap.size w' fs (.slice B fs.length C) ∧ Below w.heap.size w w'
def sliceLen : Value → Nat
  | .slice _ n _ => n
  | _ => 0
theorem Try.info37 : (Try.prog.info? 43).map (fun i => (i.zero, i.size, i.bytes)) = some (some (.slice none 0 0), 1, 24) := by kernel_rfl
theorem own_form37 {w : World} {base : Nat} {v : Value} {n : Nat} {xs : List Value} {e z : Nat} (h : w.ownsRow base e z v n xs) : ∃ A c, v = .slice A n c := by
  rcases h.2 with ⟨rfl, rfl⟩ | ⟨g, cap, cur, rfl, _⟩
  · exact ⟨_, _, rfl⟩
  · exact ⟨_, _, rfl⟩
theorem own_mono {w : World} {base base' : Nat} {v : Value} {n e z : Nat} {xs : List Value} (h : w.ownsRow base e z v n xs) (hb : base' ≤ base) : w.ownsRow base' e z v n xs := by
  refine ⟨h.1, ?_⟩
  rcases h.2 with h0 | ⟨g, cap, cur, hv, h1, r⟩
  · exact .inl h0
  · exact .inr ⟨g, cap, cur, hv, Nat.le_trans hb h1, r⟩
theorem own_belowG {w w' : World} {base : Nat} {v : Value} {n e z : Nat} {xs : List Value} (h : w.ownsRow base e z v n xs) (hb : Below w.heap.size w w') : w'.ownsRow base e z v n xs :=
  h.kept (row := none) ⟨hb.os, hb.tape, hb.output, hb.size, fun k hk _ => hb.block k hk⟩ (by cases hv : v.ownBlock <;> simp)
theorem PartsOwn.below {base : Nat} {w w' : World} {ps : List Part} {fs : List (List UInt8)} (h : PartsOwn base w ps fs) (hb : Below w.heap.size w w') : PartsOwn base w' ps fs :=
  ⟨h.1, fun p hp => own_belowG (h.2 p hp) hb⟩
/-- a row of another type that grows leaves them -/
theorem PartsOwn.grown {base : Nat} {w w' : World} {ps : List Part} {fs : List (List UInt8)} (h : PartsOwn base w ps fs) {v : Value} {n z : Nat} {xs : List Value} (hv : w.ownsRow base 43 z v n xs) (hg : w.grownBy w' v.ownBlock) : PartsOwn base w' ps fs := by
  refine ⟨h.1, fun p hp => (h.2 p hp).kept (row := v.ownBlock) hg ?_⟩
  cases hb : p.val.ownBlock with
  | none => exact .inl rfl
  | some b =>
    refine .inr fun e => ?_
    obtain ⟨C, h1⟩ := own_tag (own_mono (h.2 p hp) (Nat.zero_le _)) hb
    obtain ⟨C', h2⟩ := own_tag (own_mono hv (Nat.zero_le _)) e.symm
    rw [h1] at h2
    injection h2 with h2
    injection h2 with _ h2
    cases h2

theorem split_step {w wr w1 w2 w3 : World} {l r f : List UInt8} {A A' A2 B : Option Addr} {n c n2 c2 C : Nat} {fs : List (List UInt8)} {ps : List Part} {v3 : Value} (hh : Hold w A n c r)
    (hs : splitOf l = (splitOf (r.drop (16 + n2))).map ((fs ++ [f]) ++ ·)) (hp : PartsOwn w.heap.size wr ps fs) (hb : Below w.heap.size w wr) (hbw : Below wr.heap.size wr w2) (ho2 : w2.ownsRow w1.heap.size 5 1 (.slice A2 n2 c2) n2 (bv f)) (h1 : Below wr.heap.size wr w1)
    (ha : (w2.alloc (.cells #[.slice A2 n2 c2] 43)).ownsRow w.heap.size 43 1 (.slice B ps.length C) ps.length (ps.map Part.val))
    (h3 : w3.ownsRow w.heap.size 43 1 v3 (ps.length + 1) (ps.map Part.val ++ [.slice A2 n2 c2])) (hg : (w2.alloc (.cells #[.slice A2 n2 c2] 43)).grownBy w3 (Value.slice B ps.length C).ownBlock)
    (hn : 16 + n2 ≤ n) (hA : c ≠ 16 + n2 → A' = A.map (·.add (16 + n2))) (hA0 : c = 16 + n2 → A' = A) (hlen : ps.length * 16 + n ≤ l.length) :
    SplitRel w l (.slice A' (n - (16 + n2)) (c - (16 + n2))) v3 w3 := by
  have hbal : Below w2.heap.size w2 (w2.alloc (.cells #[.slice A2 n2 c2] 43)) := (Below.refl _ _).alloc (Nat.le_refl _) _
  have hsz : w.heap.size ≤ w2.heap.size := Nat.le_trans hb.size hbw.size
  have hb2 : Below w.heap.size w (w2.alloc (.cells #[.slice A2 n2 c2] 43)) := (hb.trans (hbw.mono hb.size)).alloc hsz _
  have hb3 : Below w.heap.size w w3 := hb2.grown hg (by simp; omega) (fun k h => (ha.lt k h).1)
  have hp2 := ((hp.below hbw).below hbal).grown ha hg
  have hone : PartsOwn w.heap.size (w2.alloc (.cells #[.slice A2 n2 c2] 43)) [(A2, n2, c2, f)] [f] := ⟨rfl, by
    intro p hp
    simp at hp
    subst hp
    exact (own_mono ho2 (Nat.le_trans hb.size h1.size)).alloc _⟩
  have hone3 := hone.grown ha hg
  refine ⟨A', _, _, r.drop (16 + n2), fs ++ [f], ps ++ [(A2, n2, c2, f)], rfl, hh.drop hn hA hA0, hs, ?_, ⟨by simp [hp2.1], ?_⟩, by simp; omega, hb3⟩
  · simpa [Part.val] using h3
  · intro p hpm
    rcases List.mem_append.1 hpm with hpm | hpm
    · exact hp2.2 p hpm
    · exact hone3.2 p hpm

set_option maxRecDepth 100000 in
set_option maxHeartbeats 1000000 in
theorem split_any (A : Option Addr) (n c : Nat) (l : List UInt8) (w : World) (h : Hold w A n c l) (hn : n ≤ 1099511627776) :
    Calls Try.prog 68 #[.slice A n c] w (SplitPost w l) := by
  have hl := h.1
  have hl' : l.length ≤ 1099511627776 := by omega
  have h0 : SplitRel w l (.slice A n c) (.slice none 0 0) w := ⟨A, n, c, l, [], [], rfl, h, by cases splitOf l <;> rfl, World.ownsRow_nil _ _ _ _, ⟨rfl, by simp⟩, by simp; omega, Below.refl _ _⟩
  have H0 := Lib.hid h0
  clear h h0 hl
  obtain ⟨i0, hi, hz0, hz1, hz2⟩ := info_parts Try.info37
  go_enter Try.func68, Try.ntmps68
  go_wp2
  go_loopw [0, 4] (fun b fr wr => SplitRel w l b fr wr) (fun b _ _ => sliceLen b)
  case atStart => exact H0.out
  case round =>
    clear H0
    obtain ⟨A, n, c, r, fs, ps, rfl, hh0, hsp, hown, hpo, hlen, hb⟩ := hrel
    have hh := hh0.below hb
    have HH := Lib.hid hh0
    clear hh0
    have hrl := hh.1
    by_cases hn0 : n = 0
    · subst hn0
      obtain rfl : r = [] := List.eq_nil_of_length_eq_zero hrl
      have fin : ∀ B C, u4 = .slice B ps.length C → SplitPost w l (.returned (.tuple #[u4, .bool true])) wr := fun B C e => by
        have e' : splitOf l = some fs := by rw [hsp, splitOf_nil]; simp
        unfold SplitPost
        rw [e']
        have hlf : fs.length = ps.length := by rw [← hpo.1]; simp
        subst e
        refine ⟨B, C, by rw [hlf], ⟨ps, hpo, ?_⟩, hb⟩
        rw [hlf]; exact hown
      obtain ⟨B, C, rfl⟩ := own_form37 hown
      have HF := Lib.hid (fin B C rfl)
      clear fin hsp hown hpo hh hrl hlen hb
      go_wp2
      go_ret2
      exact HF.out
    · have hne : r ≠ [] := fun e => hn0 (by rw [← hrl, e]; rfl)
      have hn40 : n ≤ 1099511627776 := by omega
      have hpos : 0 < n := by omega
      have hnc := hh.2.1
      cases hf : firstOf r with
      | none =>
        have e' : splitOf l = none := by rw [hsp, splitOf_none hne hf]; rfl
        have fin : ∀ w', Below w.heap.size w w' → SplitPost w l (.returned (.tuple #[.slice none 0 0, .bool false])) w' := fun w' hb' => by
          unfold SplitPost
          rw [e']
          exact ⟨rfl, hb'⟩
        have HF := Lib.hid fin
        have HC := Lib.hid (first_no hh hn40 hf)
        have HB := Lib.hid hb
        clear fin hsp hown hpo hh hrl hlen hb e' hf hne
        go_wp2_with fail
        refine HC.out.mono ?_
        rintro e w1 ⟨A1, n1, c1, rfl, hb1⟩
        go_wp2_with fail
        go_ret2
        exact HF.out _ (HB.out.trans (hb1.mono HB.out.size))
      | some f =>
        have hsn := split_on hsp hne hf
        have hfl : 16 + f.length ≤ n := by
          obtain ⟨h1, rfl, _⟩ := firstOf_some hf
          have := (bodyOf_length h1).2
          omega
        have HC := Lib.hid (first_yes hh hn40 hf)
        have HO := Lib.hid hown
        have HP := Lib.hid hpo
        have HB := Lib.hid hb
        have HS := Lib.hid hsn
        have hpl : ps.length ≤ 1099511627776 := by omega
        obtain ⟨B, C, rfl⟩ := own_form37 hown
        clear hsp hown hpo hh hb hsn hf hne
        generalize hm : f.length = m at *
        have HM := Lib.hid hm
        clear hm
        go_wp2_with fail
        refine HC.out.mono ?_
        rintro e w1 ⟨ad, c1, rfl, hh1, hb1⟩
        have HH1 := Lib.hid hh1
        have HB1 := Lib.hid hb1
        clear hh1 hb1
        go_wp2_with fail
        refine (bclone_any ad m c1 f w1 HH1.out (by omega)).mono ?_
        rintro e w2 ⟨A2, n2, c2, rfl, hown2, hb2⟩
        have hn2 : n2 = m := by
          have := hown2.1
          rw [bv_length, HM.out] at this
          omega
        subst hn2
        have hb12 : Below w1.heap.size w1 w2 := hb2
        have hbw2 : Below wr.heap.size wr w2 := HB1.out.trans (hb12.mono HB1.out.size)
        have hsz : w.heap.size ≤ w2.heap.size := Nat.le_trans HB.out.size hbw2.size
        have ho2 : (w2.alloc (.cells #[.slice A2 n2 c2] 43)).ownsRow w.heap.size 43 1 (.slice B ps.length C) ps.length (ps.map Part.val) := (own_belowG HO.out hbw2).alloc _
        have HO2 := Lib.hid hown2
        have HA := Lib.hid ho2
        have HBW := Lib.hid hbw2
        clear hown2 hb2 hb12 hbw2 ho2
        have hlt : n - (16 + n2) < n := by omega
        by_cases hck : c = 16 + n2
        · subst hck
          go_wp2_with (at_builtin; refine wpList_append_own _ rfl _ _ 68 rfl w.heap.size 43 i0 (.slice none 0 0) 1 24 Try.underlying68 hi hz0 hz1 hz2 rfl (by decide) _ _ _ rfl HA.out ⟨w2.heap.size, 0, none⟩ 1 1 _ rfl rfl (cell_one_new _ _ _) (by intro u hu; simp at hu; subst hu; rfl) (by unfold maxLen; omega) (by omega) (by simp; omega) ?_; intro v3 w3 hown3 hgrow3 _)
          exact ⟨split_step HH.out HS.out HP.out HB.out HBW.out HO2.out HB1.out HA.out hown3 hgrow3 hfl (fun h => absurd rfl h) (fun _ => rfl) hlen, hlt⟩
        · go_wp2_with (at_builtin; refine wpList_append_own _ rfl _ _ 68 rfl w.heap.size 43 i0 (.slice none 0 0) 1 24 Try.underlying68 hi hz0 hz1 hz2 rfl (by decide) _ _ _ rfl HA.out ⟨w2.heap.size, 0, none⟩ 1 1 _ rfl rfl (cell_one_new _ _ _) (by intro u hu; simp at hu; subst hu; rfl) (by unfold maxLen; omega) (by omega) (by simp; omega) ?_; intro v3 w3 hown3 hgrow3 _)
          refine ⟨split_step HH.out HS.out HP.out HB.out HBW.out HO2.out HB1.out HA.out hown3 hgrow3 hfl (fun _ => rfl) (fun h => absurd h hck) hlen, hlt⟩
end Go.Proofs.Ytbfhlleipeipbaa
