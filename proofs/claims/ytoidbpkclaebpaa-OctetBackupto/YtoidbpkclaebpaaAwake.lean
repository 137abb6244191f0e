/-
  What is proved: the law text asks of the program three fixed answers ahead of all else; they are as it asks. No condition.
-/
import Derived.Test.YtoidbpkclaebpaaRead
import Derived.Test.YtoidbpkclaebpaaSsa
namespace Go.Proofs.Ytoidbpkclaebpaa
open Go.RowKit

/-- v is a slice that reads as l, and lies elsewhere than in block g -/
def RowAt (g : Nat) (l : List UInt8) (v : Value) (w : World) : Prop := ∃ A n c, v = .slice A n c ∧ Hold w A n c l ∧ ∀ b off, 0 < n → A = some ⟨b, off, none⟩ → b ≠ g
theorem RowAt.grown {g : Nat} {l : List UInt8} {v : Value} {w w' : World} (h : RowAt g l v w) (hg : w.grownBy w' (some g)) : RowAt g l v w' := by
  obtain ⟨A, n, c, rfl, hh, hne⟩ := h
  exact ⟨A, n, c, rfl, hh.grown hg hne, hne⟩

theorem row_new {w : World} {base g : Nat} {A : Option Addr} {n c : Nat} {l : List UInt8} (h : w.ownsRow base 5 1 (.slice A n c) n (bv l)) (hg : g < base) : RowAt g l (.slice A n c) w := by
  refine ⟨A, n, c, rfl, Hold.of_own h, fun b off _ e => ?_⟩
  subst e
  have := (h.lt b rfl).1
  omega
theorem row_built (w : World) (l : List UInt8) (t : TypeId) {g : Nat} (hg : g < w.heap.size) : RowAt g l (.slice (some ⟨w.heap.size, 0, none⟩) l.length l.length) (w.alloc (.cells (bv l).toArray t)) := by
  refine ⟨_, _, _, rfl, Hold.new w l t (0, 0) _ rfl, fun b off _ e => ?_⟩
  injection e with e
  injection e with e1 e2
  omega

def awF (g : Nat) : Nat → Value → World → Prop
  | 0, v, w | 2, v, w => RowAt g [0, 0, 0, 0, 0, 0, 1, 2] v w
  | 1, v, _ | 3, v, _ => v = .string ⟨#[0, 0, 0, 0, 0, 0, 1, 2]⟩
  | 6, v, w | 8, v, w => RowAt g [0, 0, 0, 0, 0, 0, 0, 2, 97, 98] v w
  | 7, v, _ | 9, v, _ => v = .string ⟨#[0, 0, 0, 0, 0, 0, 0, 2, 97, 98]⟩
  | 13, v, _ | 17, v, _ | 22, v, _ => v = .pointer (some ⟨g, 0, none⟩)
  | 18, v, w => v = .string ⟨#[]⟩ ∧ Rdr w g none
  | 19, v, w | 20, v, w | 21, v, w => v = .bool true ∧ Rdr w g none
  | _, v, _ => v = .bool true
def awR (g : Nat) (w w' : World) : Prop :=
  w.grownBy w' (some g) ∧ (Rdr w g none → Rdr w' g none) ∧ (Rdr w g (some [0, 0, 0, 0, 0, 0, 0]) → Rdr w' g (some [0, 0, 0, 0, 0, 0, 0]) ∨ Rdr w' g none)
theorem awR_below {g : Nat} {w w' : World} (h : Below w.heap.size w w') : awR g w w' :=
  ⟨⟨h.os, h.tape, h.output, h.size, fun k hk _ => h.block k hk⟩, fun hr => hr.below h, fun hr => .inl (hr.below h)⟩
theorem awR_refl (g : Nat) (w : World) : awR g w w := awR_below (Below.refl _ _)
theorem awR_trans {g : Nat} {w1 w2 w3 : World} (h : awR g w1 w2) (k : awR g w2 w3) : awR g w1 w3 :=
  ⟨grown_trans h.1 k.1, fun hr => k.2.1 (h.2.1 hr), fun hr => (h.2.2 hr).elim k.2.2 (fun x => .inr (k.2.1 x))⟩
theorem awF_mono {g : Nat} : ∀ i v w w', awF g i v w → awR g w w' → awF g i v w' := by
  intro i v w w' h hR
  unfold awF at *
  split at h
  all_goals first | exact h | exact h.grown hR.1 | exact ⟨h.1, hR.2.1 h.2⟩
theorem no_dst {ops : Array Oper} {t : Tmp} (h : (ops.toList.all fun o => o.dst != some t) = true) : ∀ (i : Nat) (o : Oper), ops[i]? = some o → o.dst ≠ some t := by
  intro i o ho
  have hm : o ∈ ops.toList := by
    rw [Array.getElem?_eq_some_iff] at ho
    obtain ⟨h, rfl⟩ := ho
    simp
  simpa using List.all_eq_true.1 h o hm
theorem st7 : stText (some [0, 0, 0, 0, 0, 0, 0]) = ([], none) := by decide +kernel
theorem stN : stText none = ([], none) := by decide +kernel
theorem text_step {g : Nat} {w1 w2 : World} (hr : Rdr w1 g (some [0, 0, 0, 0, 0, 0, 0])) (hR : awR g w1.drew w2) :
    Calls Try.prog 19 #[.pointer (some ⟨g, 0, none⟩)] w2 fun e w3 => e = .returned (.string ⟨#[]⟩) ∧ Rdr w3 g none ∧ awR g w2 w3 := by
  have fin : ∀ s, stText s = ([], none) → Rdr w2 g s → Calls Try.prog 19 #[.pointer (some ⟨g, 0, none⟩)] w2 fun e w3 => e = .returned (.string ⟨#[]⟩) ∧ Rdr w3 g none ∧ awR g w2 w3 := by
    intro s hs h2
    have := text_any g s w2 h2
    rw [hs] at this
    refine this.mono ?_
    rintro e w3 ⟨rfl, h3, hg3⟩
    exact ⟨rfl, h3, hg3, fun _ => h3, fun _ => .inr h3⟩
  rcases hR.2.2 hr with h2 | h2
  · exact fin _ st7 h2
  · exact fin _ stN h2

set_option maxHeartbeats 1000000 in
theorem awake_any (w : World) : Calls Try.prog 11 #[] w fun e w' => e = .returned (.bool true) ∧ Below w.heap.size w w' := by
  have hr : Calls Try.prog 16 #[.slice (some ⟨w.heap.size, 0, none⟩) 7 7] (w.alloc (.cells #[.int .u8 0, .int .u8 0, .int .u8 0, .int .u8 0, .int .u8 0, .int .u8 0, .int .u8 0] 5)) (NewRdr (w.alloc (.cells #[.int .u8 0, .int .u8 0, .int .u8 0, .int .u8 0, .int .u8 0, .int .u8 0, .int .u8 0] 5)) [0, 0, 0, 0, 0, 0, 0]) := read_any (some ⟨w.heap.size, 0, none⟩) 7 7 [0, 0, 0, 0, 0, 0, 0] (w.alloc (.cells (bv [0, 0, 0, 0, 0, 0, 0]).toArray 5)) (Hold.new w [0, 0, 0, 0, 0, 0, 0] 5 (0, 0) _ rfl) (by omega)
  have HR := Lib.hid hr
  clear hr
  have hd1 : dig 258 = [0, 0, 0, 0, 0, 0, 1, 2] := by decide +kernel
  go_enter Try.func11, Try.ntmps11
  go_wp2_with (go_at_call 16; refine HR.out.mono ?_; rintro e w1 ⟨g, rfl, hr, _, hb, hg1, hg2⟩)
  have hbw : Below w.heap.size w w1 := ((Below.refl _ _).alloc (Nat.le_refl _) _).trans (hb.mono (by simp))
  have hgw : w.heap.size ≤ g := by simp at hg1; omega
  clear hb HR hg1
  refine wp_region_steps (awF g) (awR g) (by kernel_rfl) (by kernel_rfl) (awR_refl g) (fun _ _ _ h k => awR_trans h k) awF_mono ?_ ?_
  · refine ⟨?_, ?_, ?_, ?_, ?_, ?_, ?_, ?_, ?_, ?_, ?_, ?_, ?_, ?_, ?_, ?_, ?_, ?_, ?_, ?_, ?_, ?_, ?_, ?_, ?_, ?_, trivial⟩
    · intro a w2 hR hoff hd
      left
      refine ⟨rfl, ?_⟩
      go_simp
      refine (putInt_any none 0 0 [] 258 w2 (Hold.nil _) (by omega)).mono ?_
      rintro e w3 ⟨A3, n3, c3, rfl, hown3, hb3⟩
      rw [List.nil_append, hd1] at hown3
      exact ⟨_, rfl, row_new hown3 (by have := hR.1.size; simp at this; omega), awR_below hb3⟩
    · intro a w2 hR hoff hd
      left
      refine ⟨rfl, ?_⟩
      obtain ⟨A, n, c, e4, hh, _⟩ : RowAt g [0, 0, 0, 0, 0, 0, 1, 2] (a.tmps.getD 4 undef) w2 := hd 0 _ rfl rfl
      have cv := conv_hold hh
      go_simp
      exact ⟨_, rfl, rfl, awR_refl g w2⟩
    · intro a w2 hR hoff hd
      left
      refine ⟨rfl, ?_⟩
      go_simp
      exact ⟨_, rfl, row_built w2 [0, 0, 0, 0, 0, 0, 1, 2] 5 (by have := hR.1.size; simp at this; omega), awR_below ((Below.refl _ _).alloc (Nat.le_refl _) _)⟩
    · intro a w2 hR hoff hd
      left
      refine ⟨rfl, ?_⟩
      obtain ⟨A, n, c, e6, hh, _⟩ : RowAt g [0, 0, 0, 0, 0, 0, 1, 2] (a.tmps.getD 6 undef) w2 := hd 2 _ rfl rfl
      have cv := conv_hold hh
      go_simp
      exact ⟨_, rfl, rfl, awR_refl g w2⟩
    · intro a w2 hR hoff hd
      left
      refine ⟨rfl, ?_⟩
      have e5 : a.tmps.getD 5 undef = .string ⟨#[0, 0, 0, 0, 0, 0, 1, 2]⟩ := hd 1 _ rfl rfl
      have e7 : a.tmps.getD 7 undef = .string ⟨#[0, 0, 0, 0, 0, 0, 1, 2]⟩ := hd 3 _ rfl rfl
      go_simp
      exact ⟨_, rfl, rfl, awR_refl g w2⟩
    · intro a w2 hR hoff hd
      left
      refine ⟨rfl, ?_⟩
      have e8 : a.tmps.getD 8 undef = .bool true := hd 4 _ rfl rfl
      go_simp
      exact ⟨_, rfl, rfl, awR_refl g w2⟩
    · intro a w2 hR hoff hd
      left
      have e9 : a.tmps.getD 9 undef = .bool true := hd 5 _ rfl rfl
      refine ⟨wanted_of (ops := _) (j := 5) (b := true) rfl rfl rfl e9, ?_⟩
      go_simp
      refine (putText_any none 0 0 [] ⟨#[97, 98]⟩ w2 (Hold.nil _) (by decide)).mono ?_
      rintro e w3 ⟨A3, n3, c3, rfl, hown3, hb3⟩
      have hl : [] ++ dig (ByteArray.size ⟨#[97, 98]⟩) ++ [97, 98] = [0, 0, 0, 0, 0, 0, 0, 2, 97, 98] := (by decide +kernel)
      rw [hl] at hown3
      exact ⟨_, rfl, row_new hown3 (by have := hR.1.size; simp at this; omega), awR_below hb3⟩
    · intro a w2 hR hoff hd
      left
      have e9 : a.tmps.getD 9 undef = .bool true := hd 5 _ rfl rfl
      refine ⟨wanted_of (ops := _) (j := 5) (b := true) rfl rfl rfl e9, ?_⟩
      obtain ⟨A, n, c, e10, hh, _⟩ : RowAt g [0, 0, 0, 0, 0, 0, 0, 2, 97, 98] (a.tmps.getD 10 undef) w2 := hd 6 _ rfl rfl
      have cv := conv_hold hh
      go_simp
      exact ⟨_, rfl, rfl, awR_refl g w2⟩
    · intro a w2 hR hoff hd
      left
      have e9 : a.tmps.getD 9 undef = .bool true := hd 5 _ rfl rfl
      refine ⟨wanted_of (ops := _) (j := 5) (b := true) rfl rfl rfl e9, ?_⟩
      go_simp
      exact ⟨_, rfl, row_built w2 [0, 0, 0, 0, 0, 0, 0, 2, 97, 98] 5 (by have := hR.1.size; simp at this; omega), awR_below ((Below.refl _ _).alloc (Nat.le_refl _) _)⟩
    · intro a w2 hR hoff hd
      left
      have e9 : a.tmps.getD 9 undef = .bool true := hd 5 _ rfl rfl
      refine ⟨wanted_of (ops := _) (j := 5) (b := true) rfl rfl rfl e9, ?_⟩
      obtain ⟨A, n, c, e12, hh, _⟩ : RowAt g [0, 0, 0, 0, 0, 0, 0, 2, 97, 98] (a.tmps.getD 12 undef) w2 := hd 8 _ rfl rfl
      have cv := conv_hold hh
      go_simp
      exact ⟨_, rfl, rfl, awR_refl g w2⟩
    · intro a w2 hR hoff hd
      left
      have e9 : a.tmps.getD 9 undef = .bool true := hd 5 _ rfl rfl
      refine ⟨wanted_of (ops := _) (j := 5) (b := true) rfl rfl rfl e9, ?_⟩
      have e11 : a.tmps.getD 11 undef = .string ⟨#[0, 0, 0, 0, 0, 0, 0, 2, 97, 98]⟩ := hd 7 _ rfl rfl
      have e13 : a.tmps.getD 13 undef = .string ⟨#[0, 0, 0, 0, 0, 0, 0, 2, 97, 98]⟩ := hd 9 _ rfl rfl
      go_simp
      exact ⟨_, rfl, rfl, awR_refl g w2⟩
    · intro a w2 hR hoff hd
      left
      refine ⟨rfl, ?_⟩
      have e9 : a.tmps.getD 9 undef = .bool true := hd 5 _ rfl rfl
      have e14 : a.tmps.getD 14 undef = .bool true := hd 10 _ rfl rfl
      go_simp
      exact ⟨_, rfl, rfl, awR_refl g w2⟩
    · intro a w2 hR hoff hd
      left
      refine ⟨rfl, ?_⟩
      have e15 : a.tmps.getD 15 undef = .bool true := hd 11 _ rfl rfl
      go_simp
      exact ⟨_, rfl, rfl, awR_refl g w2⟩
    · intro a w2 hR hoff hd
      left
      have e16 : a.tmps.getD 16 undef = .bool true := hd 12 _ rfl rfl
      refine ⟨wanted_of (ops := _) (j := 12) (b := true) rfl rfl rfl e16, ?_⟩
      have e1 : a.tmps.getD 1 undef = .pointer (some ⟨g, 0, none⟩) := hoff.slot 1 (no_dst (by kernel_rfl))
      go_simp
      exact ⟨_, rfl, rfl, awR_refl g w2⟩
    · intro a w2 hR hoff hd
      left
      have e16 : a.tmps.getD 16 undef = .bool true := hd 12 _ rfl rfl
      refine ⟨wanted_of (ops := _) (j := 12) (b := true) rfl rfl rfl e16, ?_⟩
      have e17 : a.tmps.getD 17 undef = .pointer (some ⟨g, 0, none⟩) := hd 13 _ rfl rfl
      go_simp
      exact ⟨_, rfl, rfl, awR_refl g w2⟩
    · intro a w2 hR hoff hd
      left
      refine ⟨rfl, ?_⟩
      have e16 : a.tmps.getD 16 undef = .bool true := hd 12 _ rfl rfl
      have e18 : a.tmps.getD 18 undef = .bool true := hd 14 _ rfl rfl
      go_simp
      exact ⟨_, rfl, rfl, awR_refl g w2⟩
    · intro a w2 hR hoff hd
      left
      refine ⟨rfl, ?_⟩
      have e19 : a.tmps.getD 19 undef = .bool true := hd 15 _ rfl rfl
      go_simp
      exact ⟨_, rfl, rfl, awR_refl g w2⟩
    · intro a w2 hR hoff hd
      left
      have e20 : a.tmps.getD 20 undef = .bool true := hd 16 _ rfl rfl
      refine ⟨wanted_of (ops := _) (j := 16) (b := true) rfl rfl rfl e20, ?_⟩
      have e1 : a.tmps.getD 1 undef = .pointer (some ⟨g, 0, none⟩) := hoff.slot 1 (no_dst (by kernel_rfl))
      go_simp
      exact ⟨_, rfl, rfl, awR_refl g w2⟩
    · intro a w2 hR hoff hd
      left
      have e20 : a.tmps.getD 20 undef = .bool true := hd 16 _ rfl rfl
      refine ⟨wanted_of (ops := _) (j := 16) (b := true) rfl rfl rfl e20, ?_⟩
      have e21 : a.tmps.getD 21 undef = .pointer (some ⟨g, 0, none⟩) := hd 17 _ rfl rfl
      go_simp
      refine (text_step hr hR).mono ?_
      rintro e w3 ⟨rfl, h3, hg3⟩
      exact ⟨_, rfl, ⟨rfl, h3⟩, hg3⟩
    · intro a w2 hR hoff hd
      left
      have e20 : a.tmps.getD 20 undef = .bool true := hd 16 _ rfl rfl
      refine ⟨wanted_of (ops := _) (j := 16) (b := true) rfl rfl rfl e20, ?_⟩
      obtain ⟨e22, hn⟩ : a.tmps.getD 22 undef = .string ⟨#[]⟩ ∧ Rdr w2 g none := hd 18 _ rfl rfl
      go_simp
      exact ⟨_, rfl, ⟨rfl, hn⟩, awR_refl g w2⟩
    · intro a w2 hR hoff hd
      left
      refine ⟨rfl, ?_⟩
      have e20 : a.tmps.getD 20 undef = .bool true := hd 16 _ rfl rfl
      obtain ⟨e23, hn⟩ : a.tmps.getD 23 undef = .bool true ∧ Rdr w2 g none := hd 19 _ rfl rfl
      go_simp
      exact ⟨_, rfl, ⟨rfl, hn⟩, awR_refl g w2⟩
    · intro a w2 hR hoff hd
      left
      refine ⟨rfl, ?_⟩
      obtain ⟨e24, hn⟩ : a.tmps.getD 24 undef = .bool true ∧ Rdr w2 g none := hd 20 _ rfl rfl
      go_simp
      exact ⟨_, rfl, ⟨rfl, hn⟩, awR_refl g w2⟩
    · intro a w2 hR hoff hd
      left
      have e25 : a.tmps.getD 25 undef = .bool true := (hd 21 _ rfl rfl : _ ∧ _).1
      refine ⟨wanted_of (ops := _) (j := 21) (b := true) rfl rfl rfl e25, ?_⟩
      have e1 : a.tmps.getD 1 undef = .pointer (some ⟨g, 0, none⟩) := hoff.slot 1 (no_dst (by kernel_rfl))
      go_simp
      exact ⟨_, rfl, rfl, awR_refl g w2⟩
    · intro a w2 hR hoff hd
      left
      obtain ⟨e25, hn⟩ : a.tmps.getD 25 undef = .bool true ∧ Rdr w2 g none := hd 21 _ rfl rfl
      refine ⟨wanted_of (ops := _) (j := 21) (b := true) rfl rfl rfl e25, ?_⟩
      have e26 : a.tmps.getD 26 undef = .pointer (some ⟨g, 0, none⟩) := hd 22 _ rfl rfl
      go_simp
      refine (bad_any g none w2 hn).mono ?_
      rintro e w3 ⟨rfl, rfl⟩
      exact ⟨_, rfl, rfl, awR_refl g w2⟩
    · intro a w2 hR hoff hd
      left
      refine ⟨rfl, ?_⟩
      have e25 : a.tmps.getD 25 undef = .bool true := (hd 21 _ rfl rfl : _ ∧ _).1
      have e27 : a.tmps.getD 27 undef = .bool true := hd 23 _ rfl rfl
      go_simp
      exact ⟨_, rfl, rfl, awR_refl g w2⟩
    · intro a w2 hR hoff hd
      left
      refine ⟨rfl, ?_⟩
      have e28 : a.tmps.getD 28 undef = .bool true := hd 24 _ rfl rfl
      go_simp
      exact ⟨_, rfl, rfl, awR_refl g w2⟩
  · intro a w2 hR hoff hd
    have e0 : a.tmps.getD 0 undef = .bool true := hd 25 _ rfl
    rename_i hK
    refine hK _ _ ?_
    go_wp2
    refine bodyPost_ret (results_tmp rfl _ _ _) hoff.defers ⟨by rw [e0], ?_⟩
    have hsz := hbw.size
    exact hbw.trans ⟨hR.1.os, hR.1.tape, hR.1.output, hR.1.size, fun k hk => hR.1.block k (by simp; omega) (fun e => by injection e with e; omega)⟩
end Go.Proofs.Ytoidbpkclaebpaa
