/-
  What is proved: the walk of the law OctetShort: for every number, text and place it returns true and turns nothing that was there. Conditions: the text's length is within Go's own reach.
-/
import Derived.Test.YtoidbpkclaebpaaAwake
namespace Go.Proofs.Ytoidbpkclaebpaa
open Go.RowKit

/-- a method's end, told from an elder world on -/
def After (w0 : World) (g : Nat) (v : Value) (s : St) (e : Ending) (w' : World) : Prop := e = .returned v ∧ Rdr w' g s ∧ Below w0.heap.size w0 w'
theorem after_of {w0 w : World} {g : Nat} {f : FuncId} {args : Array Value} {v : Value} {s : St} (h : Calls Try.prog f args w (Left1 w g v s)) (hB : Below w0.heap.size w0 w) (hg : w0.heap.size ≤ g) :
    Calls Try.prog f args w (After w0 g v s) := by
  refine h.mono ?_
  rintro e w' ⟨rfl, hr, hgr⟩
  exact ⟨rfl, hr, hB.grown hgr hB.size (by rintro k h; injection h with h; omega)⟩

theorem stInt_none : stInt none = (0, none) := rfl
theorem stText_none : stText none = ([], none) := by decide +kernel
theorem stBool_none : stBool none = (false, none) := rfl
theorem stCount_none : stCount 1 none = (0, none) := by decide +kernel
theorem stDone_none : stDone none = false := rfl

theorem int_none (g : Nat) (w0 w : World) (h : Rdr w g none) (hB : Below w0.heap.size w0 w) (hg : w0.heap.size ≤ g) : Calls Try.prog 17 #[.pointer (some ⟨g, 0, none⟩)] w (After w0 g (.int .i64 0) none) :=
  after_of (by have := int_any g none w h; rwa [stInt_none] at this) hB hg
theorem text_none (g : Nat) (w0 w : World) (h : Rdr w g none) (hB : Below w0.heap.size w0 w) (hg : w0.heap.size ≤ g) : Calls Try.prog 19 #[.pointer (some ⟨g, 0, none⟩)] w (After w0 g (.string ⟨#[]⟩) none) :=
  after_of (by have := text_any g none w h; rwa [stText_none] at this) hB hg
theorem bool_none (g : Nat) (w0 w : World) (h : Rdr w g none) (hB : Below w0.heap.size w0 w) (hg : w0.heap.size ≤ g) : Calls Try.prog 21 #[.pointer (some ⟨g, 0, none⟩)] w (After w0 g (.bool false) none) :=
  after_of (by have := bool_any g none w h; rwa [stBool_none] at this) hB hg
theorem count_none (g : Nat) (w0 w : World) (h : Rdr w g none) (hB : Below w0.heap.size w0 w) (hg : w0.heap.size ≤ g) : Calls Try.prog 23 #[.pointer (some ⟨g, 0, none⟩), .int .i64 1] w (After w0 g (.int .i64 0) none) :=
  after_of (by have := count_any g 1 none w h (by omega) (by omega); rwa [stCount_none] at this) hB hg

theorem short_int (x : Int) (s : List UInt8) (m : Nat) (hm : m < 8) : stInt (some ((dig x ++ dig s.length ++ s).take m)) = (0, none) := by
  unfold stInt left
  rw [if_neg (by simp; omega)]
theorem take_dig (x : Int) (r : List UInt8) (m : Nat) (hm : 8 ≤ m) : (dig x ++ r).take m = dig x ++ r.take (m - 8) := by
  rw [List.take_append, dig_length, List.take_of_length_le (by rw [dig_length]; omega)]
theorem long_int (x : Int) (r : List UInt8) (m : Nat) (hm : 8 ≤ m) (h1 : -9223372036854775808 ≤ x) (h2 : x ≤ 9223372036854775807) : stInt (some ((dig x ++ r).take m)) = (x, some (r.take (m - 8))) := by
  rw [take_dig x r m hm]
  unfold stInt left
  rw [if_pos (by simp [dig_length])]
  have e1 : (dig x ++ r.take (m - 8)).take 8 = dig x := by rw [List.take_append_of_le_length (by rw [dig_length]; omega), List.take_of_length_le (by rw [dig_length]; omega)]
  have e2 : (dig x ++ r.take (m - 8)).drop 8 = r.take (m - 8) := by rw [List.drop_append_of_le_length (by rw [dig_length]; omega), List.drop_of_length_le (by rw [dig_length]; omega), List.nil_append]
  simp only [Option.getD_some, stTake, Option.map_some]
  rw [e1, e2, rd_dig x h1 h2]
theorem short_text (s : List UInt8) (m : Nat) (hm : m < 8 + s.length) (hs : s.length ≤ 140737488351232) : stText (some ((dig s.length ++ s).take m)) = ([], none) := by
  have hc : stCount 1 (some ((dig s.length ++ s).take m)) = (0, none) := by
    by_cases h8 : m < 8
    · have hi : stInt (some ((dig s.length ++ s).take m)) = (0, none) := by
        unfold stInt left
        rw [if_neg (by simp; omega)]
      rw [stCount_good _ _ (by rw [hi]; simp [left]), hi]
    · have hi := long_int s.length s m (by omega) (by omega) (by omega)
      rw [stCount_bad]
      rw [hi]
      right
      simp [left]
      omega
  unfold stText
  rw [hc]
  rfl

set_option maxHeartbeats 1000000 in
theorem octetShort_walk (x : Int) (s : ByteArray) (k : Int) (w : World) (h1 : -9223372036854775808 ≤ x) (h2 : x ≤ 9223372036854775807) (k1 : -9223372036854775808 ≤ k) (k2 : k ≤ 9223372036854775807) (hs : s.size ≤ 140737488351232) :
    Calls Try.prog 6 #[.int .i64 x, .string s, .int .i64 k] w fun e w' => e = .returned (.bool true) ∧ Below w.heap.size w w' := by
  have hsl : s.data.toList.length = s.size := by rw [Array.length_toList]; rfl
  have HS := Lib.hid hsl
  clear hsl
  go_enter Try.func6, Try.ntmps6
  go_wp2_with fail
  refine (putInt_any none 0 0 [] x w (Hold.nil _) (by omega)).mono ?_
  rintro e w1 ⟨A1, n1, c1, rfl, o1, b1⟩
  have hl1 : n1 = 8 := by have := o1.1; rw [bv_length, List.nil_append, dig_length] at this; omega
  subst hl1
  have H1 := Lib.hid (Hold.of_own o1)
  clear o1
  go_wp2_with fail
  refine (putText_any A1 8 c1 ([] ++ dig x) s w1 H1.out (by omega)).mono ?_
  rintro e w2 ⟨A2, n2, c2, rfl, o2, b2'⟩
  have b2 := b1.trans (b2'.mono b1.size)
  rw [List.nil_append] at o2
  obtain rfl : n2 = 16 + s.size := by
    have := o2.1
    rw [bv_length, List.length_append, List.length_append, dig_length, dig_length, HS.out] at this
    omega
  have H2 := Lib.hid (Hold.of_own o2)
  clear o2 b2' b1 H1
  go_wp2_with fail
  refine (awake_any w2).mono ?_
  rintro e w3 ⟨rfl, b3'⟩
  have b3 := b2.trans (b3'.mono b2.size)
  have H3 := Lib.hid (H2.out.below b3')
  clear b3' b2 H2
  by_cases hneg : k < 0
  · go_wp2_with fail
    refine (awake_any w3).mono ?_
    rintro e w4 ⟨rfl, b4⟩
    go_wp2
    go_ret
    exact ⟨rfl, b3.trans (b4.mono b3.size)⟩
  by_cases hbig : 16 + (s.size : Int) ≤ k
  · go_wp2_with fail
    refine (awake_any w3).mono ?_
    rintro e w4 ⟨rfl, b4⟩
    go_wp2
    go_ret
    exact ⟨rfl, b3.trans (b4.mono b3.size)⟩
  obtain ⟨m, rfl⟩ := Int.eq_ofNat_of_zero_le (show 0 ≤ k by omega)
  have hmN : m < 16 + s.size := by omega
  have H4 := Lib.hid (H3.out.take (k := m) (by omega))
  have hmc : m ≤ c2 := by have := H3.out.2.1; omega
  clear H3
  go_wp2_with fail
  refine (read_any A2 m c2 _ w3 H4.out (by omega)).mono ?_
  rintro e w4 ⟨g, rfl, hr, _, b4', hg, _⟩
  have b4 := b3.trans (b4'.mono b3.size)
  have hg0 : w.heap.size ≤ g := Nat.le_trans b3.size hg
  clear b4' b3 H4 hg
  by_cases h8 : m < 8
  · have hi := int_any g _ w4 hr
    rw [← HS.out, short_int x s.data.toList m h8] at hi
    have HI := Lib.hid (after_of hi b4 hg0)
    clear hi hr b4
    go_wp2_with (first
      | (have HI' := HI; clear HI; go_at_call 17; refine HI'.out.mono ?_; rintro e w5 ⟨rfl, hr5, b5⟩)
      | (go_at_call 25; refine (bad_any g none _ (by assumption)).mono ?_; rintro e w6 ⟨rfl, rfl⟩)
      | (go_at_call 17; refine (int_none g w _ (by assumption) (by assumption) hg0).mono ?_; rintro e w6 ⟨rfl, hr6, b6⟩)
      | (go_at_call 19; refine (text_none g w _ (by assumption) (by assumption) hg0).mono ?_; rintro e w7 ⟨rfl, hr7, b7⟩)
      | (go_at_call 21; refine (bool_none g w _ (by assumption) (by assumption) hg0).mono ?_; rintro e w8 ⟨rfl, hr8, b8⟩)
      | (go_at_call 26; refine (left_any g none _ (by assumption)).mono ?_; rintro e w9 ⟨rfl, rfl⟩)
      | (go_at_call 28; refine (done_any g none _ (by assumption)).mono ?_; rintro e w9 ⟨rfl, rfl⟩))
    go_ret
    exact ⟨rfl, b8⟩
  · have hi := int_any g _ w4 hr
    rw [List.append_assoc, long_int x (dig s.size ++ s.data.toList) m (by omega) h1 h2] at hi
    have HI := Lib.hid (after_of hi b4 hg0)
    clear hi hr b4
    have ht := fun (W : World) (h : Rdr W g (some ((dig s.size ++ s.data.toList).take (m - 8)))) (hB : Below w.heap.size w W) => after_of (text_any g _ W h) hB hg0
    rw [← HS.out, short_text s.data.toList (m - 8) (by rw [HS.out]; omega) (by rw [HS.out]; exact hs), HS.out] at ht
    have HT := Lib.hid ht
    clear ht
    go_wp2_with (first
      | (have HI' := HI; clear HI; go_at_call 17; refine HI'.out.mono ?_; rintro e w5 ⟨rfl, hr5, b5⟩)
      | (have hr5' := hr5; go_at_call 25; refine (bad_any g _ _ hr5').mono ?_; rintro e w6 ⟨rfl, rfl⟩)
      | (have HT' := HT; clear HT; go_at_call 19; refine (HT'.out _ hr5 b5).mono ?_; clear hr5; rintro e w7 ⟨rfl, hr7, b7⟩)
      | (go_at_call 25; refine (bad_any g none _ hr7).mono ?_; rintro e w6 ⟨rfl, rfl⟩)
      | (go_at_call 23; refine (count_none g w _ hr7 b7 hg0).mono ?_; rintro e w8 ⟨rfl, hr8, b8⟩)
      | (go_at_call 28; refine (done_any g none _ hr8).mono ?_; rintro e w9 ⟨rfl, rfl⟩))
    go_ret
    exact ⟨rfl, b8⟩
end Go.Proofs.Ytoidbpkclaebpaa
