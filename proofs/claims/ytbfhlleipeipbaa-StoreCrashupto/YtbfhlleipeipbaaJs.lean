/-
  What is proved: what the journal's small functions answer: a span's size and part, a copy of bytes, the first frame of bytes. Conditions: numbers are small; bytes lie in memory as they must.
-/
import Derived.Test.YtbfhlleipeipbaaSec
import Derived.Test.YtbfhlleipeipbaaNew
import Derived.Test.YtbfhlleipeipbaaOread
import Derived.Test.YtbfhlleipeipbaaSteps
import Derived.Test.YtbfhlleipeipbaaJm
import Derived.Lib.LazyBuf
namespace Go.Proofs.Ytbfhlleipeipbaa
open Go.RowKit

theorem spsize_any (f t : Int) (w : World) (h1 : 0 ≤ f) (h2 : f ≤ 1099511627776) (h3 : 0 ≤ t) (h4 : t ≤ 1099511627776) :
    Calls Try.prog 67 #[.agg #[.int .i64 f, .int .i64 t]] w fun e w' => e = .returned (.int .i64 (t - f)) ∧ Below w.heap.size w w' := by
  go_enter Try.func67, Try.ntmps67
  go_wp2
  go_ret
  exact ⟨rfl, (Below.refl _ _).alloc (Nat.le_refl _) _⟩

theorem sppart_any (f t a b : Int) (w : World) (h1 : 0 ≤ f) (h2 : f ≤ 1099511627776) (h3 : 0 ≤ a) (h4 : a ≤ 1099511627776) (h5 : 0 ≤ b) (h6 : b ≤ 1099511627776) :
    Calls Try.prog 70 #[.agg #[.int .i64 f, .int .i64 t], .int .i64 a, .int .i64 b] w fun e w' => e = .returned (.agg #[.int .i64 (f + a), .int .i64 (f + b)]) ∧ Below w.heap.size w w' := by
  go_enter Try.func70, Try.ntmps70
  go_wp2
  refine bodyPost_ret (v := .agg #[.int .i64 (f + a), .int .i64 (f + b)]) (by simp [results, Try.results70, go_sem]) rfl ⟨rfl, ?_⟩
  exact ((Below.refl _ _).alloc (Nat.le_refl _) _).alloc (by simp) _

set_option maxRecDepth 100000 in
set_option maxHeartbeats 400000 in
theorem bclone_any (ad : Addr) (n c : Nat) (l : List UInt8) (w : World) (h : Hold w (some ad) n c l) (hn : n ≤ 140737488355328) :
    Calls Try.prog 89 #[.slice (some ad) n c] w (NewRow w l) := by
  have H := Lib.hid h
  clear h
  have hz : ∀ w, (binOp .eql 43 (.slice (some ad) n c) (.slice none 0 0)).run Try.prog w = .ok (.bool false) w := fun w => Lib.run_eql_slice_nil w 43 5 (some ad) n c 0 0 (by kernel_rfl)
  have hown : (w.alloc (.cells #[] 5)).ownsRow w.heap.size 5 1 (.slice (some ⟨w.heap.size, 0, none⟩) 0 0) 0 (bv []) :=
    ⟨rfl, .inr ⟨w.heap.size, 0, #[], rfl, Nat.le_refl _, heap_alloc_new _ _, Nat.le_refl _, by decide, rfl, rfl⟩⟩
  have HO := Lib.hid hown
  clear hown
  go_enter Try.func89, Try.ntmps89
  go_wp2_with (at_builtin; refine wpList_append_hold rfl (.tmp 5) (.tmp 6) rfl w.heap.size (.slice (some ⟨w.heap.size, 0, none⟩) 0 0) 0 [] rfl HO.out (some ad) n c l rfl (H.out.below ((Below.refl _ _).alloc (Nat.le_refl _) _)) (by omega) (by simp) ?_; intro A1 c1 w1 hown1 hgrow1; simp only [Nat.zero_add, List.nil_append] at hown1 ⊢)
  go_ret
  exact ⟨A1, n, c1, rfl, hown1, ((Below.refl _ _).alloc (Nat.le_refl _) _).grown hgrow1 (by simp) (by rintro k h; cases h; exact Nat.le_refl _)⟩

/-- what 'first' answers: nothing, or the bytes that the length tells, and whether the sum is theirs -/
def FirstPost (w : World) (l : List UInt8) (e : Ending) (w' : World) : Prop :=
  if badLen l then e = .returned (.tuple #[.slice none 0 0, .bool false]) ∧ Below w.heap.size w w'
  else ∃ ad c', e = .returned (.tuple #[.slice (some ad) (bodyOf l).length c', .bool (sumOf l == ((crc (bodyOf l) : Nat) : Int))]) ∧ Hold w' (some ad) (bodyOf l).length c' (bodyOf l) ∧ Below w.heap.size w w'

theorem take_drop8 (l : List UInt8) : ((l.take 16).drop 8).take 8 = (l.drop 8).take 8 := by
  rw [List.drop_take, List.take_take]; rfl
theorem int_first {l : List UInt8} (h : 16 ≤ l.length) : stInt (some (l.take 16)) = (lenOf l, some ((l.take 16).drop 8)) := by
  have e : (left (some (l.take 16))).length = 16 := by simp [left]; omega
  unfold stInt lenOf
  rw [if_pos (by rw [e]; omega)]
  simp [left, stTake, List.take_take]
theorem int_second {l : List UInt8} (h : 16 ≤ l.length) : stInt (some ((l.take 16).drop 8)) = (sumOf l, some (((l.take 16).drop 8).drop 8)) := by
  have e : (left (some ((l.take 16).drop 8))).length = 8 := by simp [left]; omega
  unfold stInt sumOf
  rw [if_pos (by rw [e]; omega)]
  simp only [left, stTake, Option.getD_some, Option.map_some, take_drop8]
theorem lenOf_bounds (l : List UInt8) : -9223372036854775808 ≤ lenOf l ∧ lenOf l ≤ 9223372036854775807 := rd_bounds _
theorem sumOf_bounds (l : List UInt8) : -9223372036854775808 ≤ sumOf l ∧ sumOf l ≤ 9223372036854775807 := rd_bounds _
/-- the part that a frame's bytes are -/
theorem Hold.body {w : World} {A : Option Addr} {n c : Nat} {l : List UInt8} (h : Hold w A n c l) (hb : ¬ badLen l) {A' : Option Addr} (hA : c ≠ 16 → A' = A.map (·.add 16)) (hA0 : c = 16 → A' = A) :
    ∃ ad, A' = some ad ∧ Hold w (some ad) (bodyOf l).length (c - 16) (bodyOf l) := by
  have hl := h.1
  have hbl := bodyOf_length hb
  have h1 := h.drop (k := 16) (by unfold badLen at hb; omega) hA hA0
  have h2 := h1.take (k := (bodyOf l).length) (by omega)
  have e : ((l.drop 16).take (bodyOf l).length) = bodyOf l := by
    have : (bodyOf l).length = (lenOf l).toNat := by omega
    rw [this]
    rfl
  rw [e] at h2
  cases A' with
  | some ad => exact ⟨ad, rfl, h2⟩
  | none =>
    exfalso
    by_cases hc : c = 16
    · have := h.none_ (hA0 hc).symm
      unfold badLen at hb
      omega
    · have e := hA hc
      cases A with
      | none => have := h.none_ rfl; unfold badLen at hb; omega
      | some a => cases e

theorem int_len {l : List UInt8} (h : 16 ≤ l.length) (g : Nat) (w1 : World) (hr : Rdr w1 g (some (l.take 16))) : Calls Try.prog 87 #[.pointer (some ⟨g, 0, none⟩)] w1 (Left1 w1 g (.int .i64 (lenOf l)) (some ((l.take 16).drop 8))) := by
  have := int_any g _ w1 hr
  rwa [int_first h] at this
theorem int_sum {l : List UInt8} (h : 16 ≤ l.length) (g : Nat) (w1 : World) (hr : Rdr w1 g (some ((l.take 16).drop 8))) : Calls Try.prog 87 #[.pointer (some ⟨g, 0, none⟩)] w1 (Left1 w1 g (.int .i64 (sumOf l)) (some (((l.take 16).drop 8).drop 8))) := by
  have := int_any g _ w1 hr
  rwa [int_second h] at this
theorem sum_one (ad : Addr) (m c' : Nat) (b : List UInt8) (w3 : World) (hh : Hold w3 (some ad) m c' b) (hm : m ≤ 140737488355328) : Calls Try.prog 102 #[.slice (some ⟨w3.heap.size, 0, none⟩) 1 1] (w3.alloc (.cells #[.slice (some ad) m c'] 43)) fun e w' => e = .returned (.int .u32 ((crc b : Nat) : Int)) ∧ w3.alloc (.cells #[.slice (some ad) m c'] 43) = w' := by
  have := sum_any (some ⟨w3.heap.size, 0, none⟩) 1 1 [(some ad, m, c', b)] (w3.alloc (.cells #[.slice (some ad) m c'] 43)) (Parts.one hh hm w3.heap.size rfl) (by omega)
  have e : cat [(some ad, m, c', b)] = b := by simp [cat]
  rwa [e] at this
end Go.Proofs.Ytbfhlleipeipbaa
