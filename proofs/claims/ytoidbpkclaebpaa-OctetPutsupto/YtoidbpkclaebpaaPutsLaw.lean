/-
  What is proved: the walk of the law OctetPuts: where the bytes and the text are not too long it returns true and turns nothing that was there.
-/
import Derived.Test.YtoidbpkclaebpaaAwake
namespace Go.Proofs.Ytoidbpkclaebpaa
open Go.RowKit

set_option maxHeartbeats 1000000 in
theorem octetPuts_walk (A : Option Addr) (n c : Nat) (l : List UInt8) (x : Int) (s : ByteArray) (y : Bool) (w : World) (h : Hold w A n c l) (hn : n + s.size ≤ 140737488354000) :
    Calls Try.prog 3 #[.slice A n c, .int .i64 x, .string s, .bool y] w fun e w' => e = .returned (.bool true) ∧ Below w.heap.size w w' := by
  have H := Lib.hid h
  clear h
  go_enter Try.func3, Try.ntmps3
  go_wp2_with fail
  refine (putInt_any A n c l x w H.out (by omega)).mono ?_
  rintro e w1 ⟨A1, n1, c1, rfl, o1, b1⟩
  have h1 := Lib.hid (Hold.of_own o1)
  clear o1
  go_wp2_with fail
  refine (putText_any A n c l s w1 (H.out.below b1) (by omega)).mono ?_
  rintro e w2 ⟨A2, n2, c2, rfl, o2, b2'⟩
  have h2 := Lib.hid (Hold.of_own o2)
  have h1' := Lib.hid (h1.out.below b2')
  have b2 := b1.trans (b2'.mono b1.size)
  clear o2 h1 b1 b2'
  go_wp2_with fail
  refine (putBool_any A n c l y w2 (H.out.below b2) (by omega)).mono ?_
  rintro e w3 ⟨A3, n3, c3, rfl, o3, b3'⟩
  have h3 := Lib.hid (Hold.of_own o3)
  have h1 := Lib.hid (h1'.out.below b3')
  have h2' := Lib.hid (h2.out.below b3')
  have b3 := b2.trans (b3'.mono b2.size)
  clear o3 h1' h2 b2 b3'
  go_wp2_with fail
  refine (awake_any w3).mono ?_
  rintro e w4 ⟨rfl, b4'⟩
  have h1' := Lib.hid (h1.out.below b4')
  have h2 := Lib.hid (h2'.out.below b4')
  have h3' := Lib.hid (h3.out.below b4')
  have b4 := b3.trans (b4'.mono b3.size)
  clear h1 h2' h3 b3 b4'
  go_wp2_with fail
  refine (refInt_any A n c l x w4 (H.out.below b4) (by omega)).mono ?_
  rintro e w5 ⟨A5, n5, c5, rfl, o5, b5'⟩
  have h5 := Lib.hid (Hold.of_own o5)
  have h1 := Lib.hid (h1'.out.below b5')
  have h2' := Lib.hid (h2.out.below b5')
  have h3 := Lib.hid (h3'.out.below b5')
  have b5 := b4.trans (b5'.mono b4.size)
  clear o5 h1' h2 h3' b4 b5'
  go_wp2_with fail
  refine (same_any A1 A5 n1 c1 n5 c5 _ _ w5 h1.out h5.out).mono ?_
  rintro e w' ⟨rfl, rfl⟩
  rw [show ((l ++ dig x) == (l ++ dig x)) = true from beq_self_eq_true _]
  go_wp2_with fail
  refine (refText_any A n c l s w5 (H.out.below b5) (by omega)).mono ?_
  rintro e w6 ⟨A6, n6, c6, rfl, o6, b6'⟩
  have h6 := Lib.hid (Hold.of_own o6)
  have h2 := Lib.hid (h2'.out.below b6')
  have h3' := Lib.hid (h3.out.below b6')
  have b6 := b5.trans (b6'.mono b5.size)
  clear o6 h1 h5 h2' h3 b5 b6'
  go_wp2_with fail
  refine (same_any A2 A6 n2 c2 n6 c6 _ _ w6 h2.out h6.out).mono ?_
  rintro e w' ⟨rfl, rfl⟩
  rw [show ((l ++ dig s.size ++ s.data.toList) == (l ++ dig s.size ++ s.data.toList)) = true from beq_self_eq_true _]
  go_wp2_with fail
  refine (refBool_any A n c l y w6 (H.out.below b6) (by omega)).mono ?_
  rintro e w7 ⟨A7, n7, c7, rfl, o7, b7'⟩
  have h7 := Lib.hid (Hold.of_own o7)
  have h3 := Lib.hid (h3'.out.below b7')
  have b7 := b6.trans (b7'.mono b6.size)
  clear o7 h2 h6 h3' b6 b7'
  go_wp2_with fail
  refine (same_any A3 A7 n3 c3 n7 c7 _ _ w7 h3.out h7.out).mono ?_
  rintro e w' ⟨rfl, rfl⟩
  rw [show ((l ++ [if y = true then 1 else 0]) == (l ++ [if y = true then (1 : UInt8) else 0])) = true from beq_self_eq_true _]
  go_wp2
  go_ret
  exact ⟨rfl, b7⟩
end Go.Proofs.Ytoidbpkclaebpaa
