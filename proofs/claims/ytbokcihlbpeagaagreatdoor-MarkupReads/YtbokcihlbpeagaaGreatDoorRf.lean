/-
  What is proved: contract of markup's numbered. Conditions: those in each statement.
-/
import Derived.Test.YtbokcihlbpeagaaGreatDoorRe
namespace Go.Proofs.YtbokcihlbpeagaaGreatDoor
open Go.RowKit

theorem numA_lt {B : Nat} (hB : B ≤ 16) : ∀ (l : List UInt8) (acc k n : Nat), numA B acc l = some n → acc < B ^ k → n < B ^ (k + l.length) := by
  intro l
  induction l with
  | nil => intro acc k n h ha; cases h; exact ha
  | cons c t ih =>
    intro acc k n h ha
    simp only [numA] at h
    cases hd : digv B c.toNat with
    | none => rw [hd] at h; cases h
    | some d =>
      rw [hd] at h
      have := ih _ (k + 1) n h (pow_acc hB ha (digv_lt hd))
      rw [show k + (c :: t).length = k + 1 + t.length by simp; omega]
      exact this
theorem numV_lt {B n : Nat} (hB : B = 10 ∨ B = 16) {l : List UInt8} (h : numV B l = some n) (hl : l.length ≤ 8) : n < 4294967296 := by
  unfold numV at h
  by_cases h0 : l = []
  · rw [if_pos h0] at h; cases h
  · rw [if_neg h0] at h
    have h1 := numA_lt (by omega) l 0 0 n h (by simp)
    have h2 := pow_small (B := B) (k := l.length) (by omega) (by omega) hl
    rw [Nat.zero_add] at h1
    omega
theorem meanN_none {B : Nat} {l : List UInt8} (h : numV B l = none) : meanN B l = [] := by
  unfold meanN
  unfold numV at h
  by_cases h0 : l = []
  · rw [if_pos (.inl h0)]
  · rw [if_neg h0] at h
    by_cases h1 : l = [] ∨ 8 < l.length
    · rw [if_pos h1]
    · rw [if_neg h1, h]
theorem meanN_some {B n : Nat} {l : List UInt8} (h : numV B l = some n) (h8 : l.length ≤ 8) : meanN B l = if isC (n : Int) then put (n : Int) else [] := by
  unfold meanN
  unfold numV at h
  by_cases h0 : l = []
  · rw [if_pos h0] at h; cases h
  · rw [if_neg h0] at h
    rw [if_neg (by simp [h0]; omega), h]
theorem meanN_long {B : Nat} {l : List UInt8} (h8 : 8 < l.length) : meanN B l = [] := by
  unfold meanN; rw [if_pos (.inr h8)]
/-- a call that answers a text and makes memory alone -/
def StrPost (w : World) (l : List UInt8) (e : Ending) (w' : World) : Prop := e = .returned (.string ⟨l.toArray⟩) ∧ Below w.heap.size w w'

set_option maxRecDepth 100000 in
theorem numbered_any (t : ByteArray) (B : Nat) (hB : B = 10 ∨ B = 16) (w : World) (hG : Glob w) :
    Calls Tryz.prog 108 #[.string t, .int .i64 (B : Int)] w (StrPost w (meanN B t.data.toList)) := by
  by_cases h8 : t.size ≤ 8
  · have HP := Lib.hid (parse_any t B hB h8 w hG)
    have h8i : (t.size : Int) ≤ 8 := by omega
    cases hV : numV B t.data.toList with
    | none =>
      rw [meanN_none hV]
      rw [hV] at HP
      clear hV h8 hB hG
      go_enter Tryz.func108, Tryz.ntmps108
      go_wp2_with (go_at_call 118; refine HP.out.mono ?_; rintro e w1 ⟨hb, N, rfl⟩; have HBl := Lib.hid hb; clear hb)
      go_ret
      exact ⟨rfl, HBl.out⟩
    | some n =>
      have hl8 : t.data.toList.length ≤ 8 := by rw [size_toList]; exact h8
      have hn := numV_lt hB hV hl8
      rw [meanN_some hV hl8]
      rw [hV] at HP
      clear hV hl8 h8 hB hG
      by_cases hs : n < 2147483648
      · have hw : IntKind.i32.wrap (n : Int) = (n : Int) := Go.IntWalk.i32_in _ ⟨by omega, by omega⟩
        have HPUT := Lib.hid (fun W => put_any (n : Int) W)
        by_cases hc : isC (n : Int)
        · rw [if_pos hc]
          have HC := Lib.hid (fun W => char_is (n : Int) true (decide_eq_true hc).symm W)
          clear hc
          go_enter Tryz.func108, Tryz.ntmps108
          go_wp2_with (first
            | (go_at_call 118; refine HP.out.mono ?_; rintro e w1 ⟨hb, rfl⟩; have HBl := Lib.hid hb; clear hb)
            | (go_at_call 37; refine (HC.out _).mono ?_; rintro e w2 ⟨rfl, rfl⟩)
            | (go_at_call 119; refine (HPUT.out _).mono ?_; rintro e w2 ⟨rfl, hb⟩; have HB2 := Lib.hid hb; clear hb))
          go_ret
          exact ⟨rfl, HBl.out.trans (HB2.out.mono HBl.out.size)⟩
        · rw [if_neg hc]
          have HC := Lib.hid (fun W => char_is (n : Int) false (decide_eq_false hc).symm W)
          clear hc HPUT
          go_enter Tryz.func108, Tryz.ntmps108
          go_wp2_with (first
            | (go_at_call 118; refine HP.out.mono ?_; rintro e w1 ⟨hb, rfl⟩; have HBl := Lib.hid hb; clear hb)
            | (go_at_call 37; refine (HC.out _).mono ?_; rintro e w2 ⟨rfl, rfl⟩))
          go_ret
          exact ⟨rfl, HBl.out⟩
      · have hw : IntKind.i32.wrap (n : Int) = (n : Int) - 4294967296 := by
          rw [IntKind.wrap_i32]; omega
        rw [if_neg (by rw [isC_iff]; omega)]
        have HC := Lib.hid (fun W => char_is ((n : Int) - 4294967296) false (decide_eq_false (by rw [isC_iff]; omega)).symm W)
        go_enter Tryz.func108, Tryz.ntmps108
        go_wp2_with (first
          | (go_at_call 118; refine HP.out.mono ?_; rintro e w1 ⟨hb, rfl⟩; have HBl := Lib.hid hb; clear hb)
          | (go_at_call 37; refine (HC.out _).mono ?_; rintro e w2 ⟨rfl, rfl⟩))
        go_ret
        exact ⟨rfl, HBl.out⟩
  · rw [meanN_long (by rw [size_toList]; omega)]
    have h8i : ¬ (t.size : Int) ≤ 8 := by omega
    have h8j : (8 : Int) < (t.size : Int) := by omega
    clear h8
    go_enter Tryz.func108, Tryz.ntmps108
    go_wp2
    go_ret
    exact ⟨rfl, Below.refl _ _⟩
end Go.Proofs.YtbokcihlbpeagaaGreatDoor
