/-
  What is proved: the contract of store.find: how many keys are less, and whether the key is there; and the law of append onto a row of changes of the call's own. Conditions: those in each statement.
-/
import Derived.Test.YtbfhlleipeipbaaLp
import Derived.Test.YtbfhlleipeipbaaOwn
namespace Go.Proofs.Ytbfhlleipeipbaa
open Go.Shelf Go.RowKit Go.Lib Go.Sort

/-- The row is as it was. -/
theorem SWK.same {w0 W : World} {blk off : Nat} {d : Array Cg} (h : SWK encC 3 w0 blk off d W) (hH : HoldsK encC 3 w0 blk off d) : Below w0.heap.size w0 W := by
  obtain ⟨n, os, rfl⟩ := h
  unfold sortWorldK
  rw [putRowK_self encC 3 (Sort.ahead w0 n) blk off d (holdsK_ahead encC 3 w0 n blk off d hH)]
  unfold grow Sort.ahead
  refine ⟨rfl, rfl, rfl, by simp, fun j hj => ?_⟩
  simp [Array.getElem?_append, hj]

/-- Is the key less than t? -/
def lessT (t : List UInt8) (x : Cg) : Bool := decide (compareBytes (ky x) t < 0)
/-- How many keys are less. -/
def lowN (l : List Cg) (t : List UInt8) : Nat := (l.takeWhile (lessT t)).length
/-- Is the key there? -/
def isIn (l : List Cg) (t : List UInt8) : Bool := match l.dropWhile (lessT t) with
  | [] => false
  | x :: _ => decide (compareBytes (ky x) t = 0)
theorem lowN_le (l : List Cg) (t : List UInt8) : lowN l t ≤ l.length := by unfold lowN; exact (List.takeWhile_sublist _).length_le
theorem found_low {l : List Cg} {t : List UInt8} {i : Nat} (h : Found (fun x => compareBytes (ky x) t) l.toArray i) : i = lowN l t ∧ (decide (i < l.length) && decide (compareBytes (ky l.toArray[i]!) t = 0)) = isIn l t := by
  have key : ∀ (l : List Cg) (i : Nat), i ≤ l.length → (∀ j (hj : j < l.length), j < i → lessT t l[j] = true) → (∀ j (hj : j < l.length), i ≤ j → lessT t l[j] = false) → l.takeWhile (lessT t) = l.take i ∧ l.dropWhile (lessT t) = l.drop i := by
    intro l
    induction l with
    | nil => intro i _ _ _; simp
    | cons x l ih =>
      intro i hi h1 h2
      cases i with
      | zero =>
        have hx : lessT t x = false := h2 0 (by simp) (Nat.le_refl _)
        rw [List.takeWhile_cons_of_neg (by simp [hx]), List.dropWhile_cons_of_neg (by simp [hx])]
        simp
      | succ i =>
        have hx : lessT t x = true := h1 0 (by simp) (by omega)
        obtain ⟨a, b⟩ := ih i (by simpa using hi) (fun j hj hji => h1 (j + 1) (by simpa using hj) (by omega)) (fun j hj hji => h2 (j + 1) (by simpa using hj) (by omega))
        rw [List.takeWhile_cons_of_pos hx, List.dropWhile_cons_of_pos hx, a, b]
        simp
  obtain ⟨hi, h1, h2⟩ := h
  have hi' : i ≤ l.length := by simpa using hi
  have get : ∀ j (hj : j < l.length), l.toArray[j]! = l[j] := fun j hj => by simp [hj]
  obtain ⟨a, b⟩ := key l i hi' (fun j hj hji => by
      have := h1 j hji; rw [get j hj] at this; exact decide_eq_true this) (fun j hj hij => by
      have this : 0 ≤ compareBytes (ky l.toArray[j]!) t := h2 j hij (by simpa using hj)
      rw [get j hj] at this; exact decide_eq_false (by omega))
  refine ⟨by unfold lowN; rw [a, List.length_take]; omega, ?_⟩
  unfold isIn
  rw [b]
  by_cases hlt : i < l.length
  · rw [get i hlt, decide_eq_true hlt, List.drop_eq_getElem_cons hlt]; rfl
  · rw [decide_eq_false hlt, List.drop_eq_nil_of_le (by omega)]; rfl

set_option maxHeartbeats 1000000 in
theorem bsearch_none (A : Option Addr) (c g : Nat) (tv : ByteArray) (w : World) : Calls Try.prog 59 #[.slice A 0 c, .string tv, .func (.func g) #[] #[]] w fun e w' => e = .returned (.tuple #[.int .i64 0, .bool false]) ∧ w' = w := by
  go_enter Try.func59, Try.ntmps59
  go_wp2
  go_loopg [9, 10] 0 (fun _ s9 s10 wr => s9 = .int .i64 0 ∧ s10 = .int .i64 0 ∧ Aside (wr = w))
  case atStart => exact ⟨rfl, rfl, (rfl : Aside _)⟩
  case round =>
    obtain ⟨rfl, rfl, hw⟩ := hrel
    go_wp2
    go_ret2
    exact ⟨rfl, hw.out⟩
theorem find1_enters : ∀ args w, (callFunc 60 args).run Try.prog w = .ok (.enter 60 args) w := enters_of Try.func60 (by kernel_rfl) rfl
/-- Of rising keys, what is less than a text stands ahead of what is not. -/
theorem asc_mono {l : List Cg} (h : Asc l) (t : List UInt8) : ∀ a b, a ≤ b → b < l.toArray.size → compareBytes (ky l.toArray[b]!) t < 0 → compareBytes (ky l.toArray[a]!) t < 0 := by
  intro a b hab hb hx
  have hb' : b < l.length := by simpa using hb
  by_cases e : a = b
  · subst e; exact hx
  · have hlt : klt l[a] l[b] = true := List.pairwise_iff_getElem.1 h a b (by omega) hb' (by omega)
    rw [show l.toArray[b]! = l[b] by simp [hb']] at hx
    rw [show l.toArray[a]! = l[a] by simp [show a < l.length by omega]]
    exact cb_trans _ _ _ ((klt_iff _ _).1 hlt) hx
set_option maxHeartbeats 1000000 in
theorem find_any (A : Option Addr) (n c : Nat) (l : List Cg) (t : ByteArray) (w : World) (h : HC w A n c l) (ha : Asc l) (hb : n < 4611686018427387904) :
    Calls Try.prog 40 #[.slice A n c, .string t] w fun e w' => e = .returned (.tuple #[.int .i64 (lowN l t.data.toList : Nat), .bool (isIn l t.data.toList)]) ∧ Below w.heap.size w w' := by
  have hs : Calls Try.prog 59 #[.slice A n c, .string t, .func (.func 60) #[] #[]] w fun e w' => e = .returned (.tuple #[.int .i64 (lowN l t.data.toList : Nat), .bool (isIn l t.data.toList)]) ∧ Below w.heap.size w w' := by
    rcases Nat.eq_zero_or_pos n with h0 | h0
    · subst h0
      obtain rfl : l = [] := List.length_eq_zero_iff.1 h.1
      refine (bsearch_none A c 60 t w).mono ?_
      rintro e w' ⟨rfl, rfl⟩
      exact ⟨rfl, Below.refl _ _⟩
    · obtain ⟨b, o, rfl, R⟩ := h.row h0
      have hz : l.toArray.size = n := by rw [← h.1]; simp
      have hc := bsearch_any sm_try 60 t (fun x => compareBytes (ky x) t.data.toList) b o c l.toArray w find1_enters (fun x W => find1_any x t W) R (by rw [hz]; exact hb) (asc_mono ha _)
      rw [hz] at hc
      refine hc.mono ?_
      rintro e w' ⟨i, hF, rfl, hS⟩
      obtain ⟨e1, e2⟩ := found_low hF
      refine ⟨?_, SWK.same hS R.hH⟩
      rw [h.1] at e2
      rw [← e2, ← e1]
  clear h ha
  go_enter Try.func40, Try.ntmps40
  go_wp2_with (go_at_call 59; refine hs.mono ?_; clear hs; rintro e w' ⟨rfl, hb'⟩)
  go_ret2
  exact ⟨rfl, hb'⟩

/-! ### append -/
theorem own_form52 {w : World} {base : Nat} {v : Value} {n : Nat} {xs : List Value} (h : w.ownsRow base 52 3 v n xs) : ∃ A c, v = .slice A n c ∧ (A = none ∨ ∃ b o, A = some ⟨b, o, none⟩) := by
  rcases h.2 with ⟨rfl, rfl⟩ | ⟨g, cap, cur, rfl, _⟩
  · exact ⟨_, _, rfl, .inl rfl⟩
  · exact ⟨_, _, rfl, .inr ⟨g, 0, rfl⟩⟩
/-- 'append(out, xs...)' of changes, onto a row of the call's own, xs nil or not. -/
theorem wpList_append_hc {w : World} {ops : Array Oper} {rest : List Oper} {o : Oper} {a : Act} {Q : Exit → Act → World → Prop} (hgd : o.guard = none) (s x : Operand)
    (ho : o.op = .call { callee := .builtin .append, args := #[s, x], argTypes := #[36, 36] })
    (base : Nat) (v : Value) (n : Nat) (l : List Cg) (hs : a.eval s = v) (hown : w.ownsRow base 52 3 v n (chV l))
    (A : Option Addr) (m c : Nat) (l2 : List Cg) (hx : a.eval x = .slice A m c) (hh : HC w A m c l2) (hc0 : A = none → c = 0) (hbytes : (n + m) * 40 ≤ 140737488355328) (hbase : base ≤ w.heap.size)
    (h : ∀ A' c' w', w'.ownsRow base 52 3 (.slice A' (n + m) c') (n + m) (chV (l ++ l2)) → w.grownBy w' v.ownBlock → wpList Try.prog ops Q rest (a.put o.dst (.slice A' (n + m) c')) w') : wpList Try.prog ops Q (o :: rest) a w := by
  obtain ⟨i0, hi, hz0, hz1, hz2⟩ := info52'
  rcases hh.2.2.2 with rfl | ⟨b, of, rfl⟩
  · obtain rfl : c = 0 := hc0 rfl
    obtain rfl : m = 0 := by have := hh.2.1; omega
    obtain rfl : l2 = [] := List.length_eq_zero_iff.1 hh.1
    obtain ⟨A', c', rfl, _⟩ := own_form52 hown
    refine wpList_append_own_none hgd s x 36 ho base 52 i0 3 Try.underlying36 hi _ n (chV l) hs hown hx ?_
    simpa using h A' c' w (by simpa using hown) (World.grownBy.refl _ _)
  · refine wpList_append_own w hgd s x 36 ho base 52 i0 _ 3 40 Try.underlying36 hi hz0 hz1 hz2 rfl (by decide) v n (chV l) hs hown ⟨b, of, none⟩ m c (chV l2) hx (by rw [chV_length, hh.1]) (fun j u hu => ?_) (chV_one l2) (by unfold maxLen; omega) (by omega) hbase ?_
    · rcases Nat.eq_zero_or_pos m with h0 | h0
      · subst h0
        obtain rfl : l2 = [] := List.length_eq_zero_iff.1 hh.1
        simp [chV] at hu
      · obtain ⟨b', o', he, _, hH⟩ := hh.2.2.1 h0
        cases he
        rw [Addr.add_lit]
        exact holdsK_cells hH j u hu
    · intro v' w' hown' hgrow _
      obtain ⟨A', c', rfl, _⟩ := own_form52 hown'
      exact h A' c' w' (by rw [chV_append]; exact hown') hgrow
end Go.Proofs.Ytbfhlleipeipbaa
