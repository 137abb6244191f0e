/-
  What is proved: the order of texts byte by byte is one; strings.Compare, strings.HasPrefix and the closures of the package store answer by it. Conditions: those in each statement.
-/
import Derived.Test.YtbfhlleipeipbaaSw
import Derived.Lib.Strings
import Derived.Lib.Walk
import Derived.Lib.Bytealg
namespace Go.Proofs.Ytbfhlleipeipbaa
open Go.Shelf Go.RowKit Go.Lib Go.Sort

/-! ### the order -/
theorem cb_self : ∀ a : List UInt8, compareBytes a a = 0
  | [] => rfl
  | x :: a => by unfold compareBytes; rw [if_neg (UInt8.lt_irrefl x), if_neg (UInt8.lt_irrefl x)]; exact cb_self a
theorem cb_zero : ∀ a b : List UInt8, compareBytes a b = 0 → a = b
  | [], [] => fun _ => rfl
  | [], _ :: _ => fun h => by simp [compareBytes] at h
  | _ :: _, [] => fun h => by simp [compareBytes] at h
  | x :: a, y :: b => fun h => by
    unfold compareBytes at h
    by_cases h1 : x < y
    · rw [if_pos h1] at h; simp at h
    · rw [if_neg h1] at h
      by_cases h2 : y < x
      · rw [if_pos h2] at h; simp at h
      · rw [if_neg h2] at h
        have e : x = y := UInt8.le_antisymm (UInt8.not_lt.1 h2) (UInt8.not_lt.1 h1)
        rw [e, cb_zero a b h]
theorem cb_neg : ∀ a b : List UInt8, compareBytes b a = - compareBytes a b
  | [], [] => rfl
  | [], _ :: _ => rfl
  | _ :: _, [] => rfl
  | x :: a, y :: b => by
    unfold compareBytes
    by_cases h1 : x < y
    · rw [if_pos h1, if_neg (UInt8.lt_asymm h1), if_pos h1]; rfl
    · by_cases h2 : y < x
      · rw [if_pos h2, if_neg h1, if_pos h2]
      · rw [if_neg h1, if_neg h2, if_neg h2, if_neg h1]; exact cb_neg a b
theorem cb_trans : ∀ a b c : List UInt8, compareBytes a b < 0 → compareBytes b c < 0 → compareBytes a c < 0
  | [], [], _ => fun h _ => by simp [compareBytes] at h
  | [], _ :: _, [] => fun _ h => by simp [compareBytes] at h
  | [], _ :: _, _ :: _ => fun _ _ => by simp [compareBytes]
  | _ :: _, [], _ => fun h _ => by simp [compareBytes] at h
  | _ :: _, _ :: _, [] => fun _ h => by simp [compareBytes] at h
  | x :: a, y :: b, z :: c => fun h k => by
    unfold compareBytes at h k ⊢
    by_cases h1 : x < y
    · by_cases k1 : y < z
      · rw [if_pos (UInt8.lt_trans h1 k1)]; decide
      · rw [if_neg k1] at k
        by_cases k2 : z < y
        · rw [if_pos k2] at k; exact absurd k (by decide)
        · have e : y = z := UInt8.le_antisymm (UInt8.not_lt.1 k2) (UInt8.not_lt.1 k1)
          rw [← e, if_pos h1]; decide
    · rw [if_neg h1] at h
      by_cases h2 : y < x
      · rw [if_pos h2] at h; exact absurd h (by decide)
      · rw [if_neg h2] at h
        have e : x = y := UInt8.le_antisymm (UInt8.not_lt.1 h2) (UInt8.not_lt.1 h1)
        subst e
        by_cases k1 : x < z
        · rw [if_pos k1]; decide
        · rw [if_neg k1] at k ⊢
          by_cases k2 : z < x
          · rw [if_pos k2] at k; exact absurd k (by decide)
          · rw [if_neg k2] at k ⊢
            exact cb_trans a b c h k
theorem cb_ntrans (a b c : List UInt8) (h : ¬ compareBytes a b < 0) (k : ¬ compareBytes b c < 0) : ¬ compareBytes a c < 0 := fun hc => by
  by_cases h0 : compareBytes a b = 0
  · rw [cb_zero a b h0] at hc; exact k hc
  · by_cases k0 : compareBytes b c = 0
    · rw [← cb_zero b c k0] at hc; exact h hc
    · have h1 : compareBytes b a < 0 := by rw [cb_neg]; omega
      have k1 : compareBytes c b < 0 := by rw [cb_neg]; omega
      have := cb_trans c b a k1 h1
      rw [cb_neg] at this
      omega

/-- Which of two changes' keys is less. -/
def kcmp (x y : Cg) : Int := compareBytes x.key.data.toList y.key.data.toList
def klt (x y : Cg) : Bool := ltOf kcmp x y
theorem klt_iff (x y : Cg) : klt x y = true ↔ compareBytes x.key.data.toList y.key.data.toList < 0 := by unfold klt ltOf kcmp; exact decide_eq_true_iff
theorem klt_not (x y : Cg) : klt x y = false ↔ ¬ compareBytes x.key.data.toList y.key.data.toList < 0 := by unfold klt ltOf kcmp; exact decide_eq_false_iff_not
theorem klt_swo : SWO (ltOf kcmp) where
  irrefl x := (klt_not x x).2 (by rw [cb_self]; decide)
  trans x y z h k := (klt_iff x z).2 (cb_trans _ _ _ ((klt_iff x y).1 h) ((klt_iff y z).1 k))
  ntrans x y z h k := (klt_not x z).2 (cb_ntrans _ _ _ ((klt_not x y).1 h) ((klt_not y z).1 k))

/-! ### the library's two, and the closures -/
set_option maxHeartbeats 1000000 in
set_option maxRecDepth 100000 in
theorem compareString_any (a b : ByteArray) (w : World) :
    Calls Try.prog 86 #[.string a, .string b] w fun e w' => e = .returned (.int .i64 (compareBytes a.data.toList b.data.toList)) ∧ w' = w := by
  go_enter Try.func86, Try.ntmps86
  go_wp2
  rw [run_callFunc_extern Try.func101 (by kernel_rfl) (by kernel_rfl) (by kernel_rfl) (e := Extern.BytealgCompare.compare) (by kernel_rfl), Lib.run_compareString]
  simp only [Result.andThen]
  rw [Oper.upon_value]
  go_wp2
  go_ret
  exact ⟨rfl, rfl⟩
set_option maxHeartbeats 1000000 in
theorem compare_any (a b : ByteArray) (w : World) :
    Calls Try.prog 61 #[.string a, .string b] w fun e w' => e = .returned (.int .i64 (compareBytes a.data.toList b.data.toList)) ∧ w' = w := by
  go_enter Try.func61, Try.ntmps61
  go_wp2_with (go_at_call 86; refine (compareString_any _ _ _).mono ?_; rintro e w' ⟨rfl, rfl⟩)
  go_ret
  exact ⟨rfl, rfl⟩
set_option maxHeartbeats 1000000 in
theorem last1_any (x y : Cg) (W : World) : Calls Try.prog 95 #[.agg (encC x).toArray, .agg (encC y).toArray] W fun e w' => e = .returned (.int .i64 (kcmp x y)) ∧ ∃ q os', w' = grow (W.drewN q) os' := by
  have hcon := fun W' => compare_any x.key y.key W'
  change Calls Try.prog 95 #[.agg #[.string x.key, .string x.val, .bool x.gone], .agg #[.string y.key, .string y.val, .bool y.gone]] W fun e w' => e = .returned (.int .i64 (compareBytes x.key.data.toList y.key.data.toList)) ∧ ∃ q os', w' = grow (W.drewN q) os'
  generalize compareBytes x.key.data.toList y.key.data.toList = r at hcon ⊢
  go_enter Try.func95, Try.ntmps95
  go_wp2_with (go_at_call 61; refine (hcon _).mono ?_; rintro e w' ⟨rfl, rfl⟩)
  go_ret
  exact ⟨rfl, 0, _, by rw [alloc_eq_grow, alloc_eq_grow, grow_grow]; rfl⟩
theorem last1_lays (blk off size : Nat) (w : World) : CmpLays Try.prog 95 #[] encC 3 kcmp blk off size w := fun _ _ _ _ x y => last1_any x y _
set_option maxHeartbeats 1000000 in
theorem last2_any (x y : Cg) (W : World) : Calls Try.prog 97 #[.agg (encC x).toArray, .agg (encC y).toArray] W fun e w' => e = .returned (.bool (x.key.data.toList == y.key.data.toList)) ∧ ∃ q os', w' = grow (W.drewN q) os' := by
  change Calls Try.prog 97 #[.agg #[.string x.key, .string x.val, .bool x.gone], .agg #[.string y.key, .string y.val, .bool y.gone]] W fun e w' => e = .returned (.bool (x.key.data.toList == y.key.data.toList)) ∧ ∃ q os', w' = grow (W.drewN q) os'
  go_enter Try.func97, Try.ntmps97
  go_wp2
  go_ret
  refine ⟨?_, 0, _, by rw [alloc_eq_grow, alloc_eq_grow, grow_grow]; rfl⟩
  rw [← ByteArray.toList_eq, ← ByteArray.toList_eq]; rfl
set_option maxHeartbeats 1000000 in
theorem find1_any (x : Cg) (t : ByteArray) (W : World) : Calls Try.prog 60 #[.agg (encC x).toArray, .string t] W fun e w' => e = .returned (.int .i64 (compareBytes x.key.data.toList t.data.toList)) ∧ ∃ q os', w' = grow (W.drewN q) os' := by
  have hcon := fun W' => compare_any x.key t W'
  change Calls Try.prog 60 #[.agg #[.string x.key, .string x.val, .bool x.gone], .string t] W fun e w' => e = .returned (.int .i64 (compareBytes x.key.data.toList t.data.toList)) ∧ ∃ q os', w' = grow (W.drewN q) os'
  generalize compareBytes x.key.data.toList t.data.toList = r at hcon ⊢
  go_enter Try.func60, Try.ntmps60
  go_wp2_with (go_at_call 61; refine (hcon _).mono ?_; rintro e w' ⟨rfl, rfl⟩)
  go_ret
  exact ⟨rfl, 0, _, by rw [alloc_eq_grow]; rfl⟩
end Go.Proofs.Ytbfhlleipeipbaa
