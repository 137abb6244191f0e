/-
  What is proved: what the document's own functions that lay numbers, texts and truths behind bytes answer, and that they turn nothing that was there.
-/
import Derived.Test.YtoidbpkclaebpaaPuts
import Derived.Laws.BytesArg
import Derived.Laws.AppendOwnNone
namespace Go.Proofs.Ytoidbpkclaebpaa
open Go.RowKit

theorem conv_hold {w : World} {A : Option Addr} {n c : Nat} {l : List UInt8} (h : Hold w A n c l) : (convert 22 9 (.slice A n c)).run Try.prog w = .ok (.string ⟨l.toArray⟩) w := by
  obtain rfl := h.1
  cases A with
  | none =>
    have h0 := h.none_ rfl
    have hl : l = [] := List.eq_nil_of_length_eq_zero h0.1
    subst hl
    exact run_convert_bytes_nil w 22 5 Try.underlying22 Try.underlying5 _ _ 9 Try.underlying9
  | some a =>
    refine run_convert_bytes_back w 22 9 5 a c l Try.underlying22 Try.underlying5 Try.underlying9 (fun j hj => ?_)
    exact h.cells a rfl j _ ((bv_get l j _).2 ⟨hj, rfl⟩)

set_option maxHeartbeats 400000 in
theorem same_any (A A2 : Option Addr) (n c n2 c2 : Nat) (l l2 : List UInt8) (w : World) (h : Hold w A n c l) (h2 : Hold w A2 n2 c2 l2) :
    Calls Try.prog 12 #[.slice A n c, .slice A2 n2 c2] w fun e w' => e = .returned (.bool (l == l2)) ∧ w = w' := by
  have e1 := conv_hold h
  have e2 := conv_hold h2
  clear h h2
  go_enter Try.func12, Try.ntmps12
  go_wp2
  go_ret
  exact ⟨rfl, rfl⟩

theorem own_form {w : World} {base : Nat} {v : Value} {n : Nat} {xs : List Value} (h : w.ownsRow base 5 1 v n xs) : ∃ A c, v = .slice A n c := by
  rcases h.2 with ⟨rfl, rfl⟩ | ⟨g, cap, cur, rfl, _⟩
  · exact ⟨_, _, rfl⟩
  · exact ⟨_, _, rfl⟩

/-- 'append(out, xs...)' of bytes, onto a row of the call's own, xs nil or not. -/
theorem wpList_append_hold {w : World} {ops : Array Oper} {rest : List Oper} {o : Oper} {a : Act} {Q : Exit → Act → World → Prop} (hgd : o.guard = none) (s x : Operand)
    (ho : o.op = .call { callee := .builtin .append, args := #[s, x], argTypes := #[22, 22] })
    (base : Nat) (v : Value) (n : Nat) (l : List UInt8) (hs : a.eval s = v) (hown : w.ownsRow base 5 1 v n (bv l))
    (A : Option Addr) (m c : Nat) (l2 : List UInt8) (hx : a.eval x = .slice A m c) (hh : Hold w A m c l2) (hbytes : n + m ≤ 140737488355328) (hbase : base ≤ w.heap.size)
    (h : ∀ A' c' w', w'.ownsRow base 5 1 (.slice A' (n + m) c') (n + m) (bv (l ++ l2)) → w.grownBy w' v.ownBlock → wpList Try.prog ops Q rest (a.put o.dst (.slice A' (n + m) c')) w') : wpList Try.prog ops Q (o :: rest) a w := by
  obtain ⟨i0, hi, hz0, hz1, hz2⟩ := info_parts Try.info5
  cases A with
  | none =>
    obtain ⟨rfl, rfl⟩ := hh.none_ rfl
    have hl : l2 = [] := List.eq_nil_of_length_eq_zero hh.1
    subst hl
    obtain ⟨A', c', rfl⟩ := own_form hown
    refine wpList_append_own_none hgd s x 22 ho base 5 i0 1 Try.underlying22 hi _ n (bv l) hs hown hx ?_
    simpa using h A' c' w (by simpa using hown) (World.grownBy.refl _ _)
  | some ad =>
    refine wpList_append_own w hgd s x 22 ho base 5 i0 (.int .u8 0) 1 1 Try.underlying22 hi hz0 hz1 hz2 rfl (by decide) v n (bv l) hs hown ad m c (bv l2) hx (by rw [bv_length, hh.1]; omega) (hh.cells ad rfl) (bv_one l2) (by unfold maxLen; omega) (by omega) hbase ?_
    intro v' w' hown' hgrow _
    obtain ⟨A', c', rfl⟩ := own_form hown'
    exact h A' c' w' (by rw [bv_append]; exact hown') hgrow

set_option maxHeartbeats 400000 in
theorem refInt_any (A : Option Addr) (n c : Nat) (l : List UInt8) (x : Int) (w : World) (h : Hold w A n c l) (hn : n ≤ 140737488355000) :
    Calls Try.prog 13 #[.slice A n c, .int .i64 x] w (NewRow w (l ++ dig x)) := by
  have H := Lib.hid h
  clear h
  go_enter Try.func13, Try.ntmps13
  go_wp2_with (first
    | (at_builtin; refine wpList_append_hold rfl (.tmp 6) (.tmp 7) rfl w.heap.size (.slice none 0 0) 0 [] rfl (World.ownsRow_nil _ _ _ _) A n c l rfl H.out (by omega) (Nat.le_refl _) ?_; intro A1 c1 w1 hown1 hgrow1; simp only [Nat.zero_add, List.nil_append] at hown1; have hb1 : Below w.heap.size w w1 := (Below.refl _ _).grown hgrow1 (Nat.le_refl _) (by simp [Value.ownBlock]))
    | (go_at_call 32; refine (digits_any x w1).mono ?_; rintro e w2 ⟨v2, rfl, hown2, hb2⟩; obtain ⟨A2, c2, hv2⟩ := own_form hown2; rw [hv2] at hown2 ⊢; clear hv2)
    | (at_builtin; refine wpList_append_hold rfl (.tmp 9) (.tmp 11) rfl w.heap.size (.slice A1 n c1) n l rfl (hown1.kept (row := none) ⟨hb2.os, hb2.tape, hb2.output, hb2.size, fun k hk _ => hb2.block k hk⟩ (by cases hv : (Value.slice A1 n c1).ownBlock <;> simp)) A2 8 c2 (dig x) rfl (Hold.of_own hown2) (by omega) (Nat.le_trans hb1.size hb2.size) ?_; intro A3 c3 w3 hown3 hgrow3))
  go_ret
  exact ⟨A3, _, c3, rfl, hown3, (hb1.trans (hb2.mono hb1.size)).grown hgrow3 (Nat.le_trans hb1.size hb2.size) (fun k hk => (hown1.lt k hk).1)⟩

/-- what is owned stays owned while nothing that was there turns -/
theorem own_below {w w' : World} {base : Nat} {v : Value} {n : Nat} {xs : List Value} (h : w.ownsRow base 5 1 v n xs) (hb : Below w.heap.size w w') : w'.ownsRow base 5 1 v n xs :=
  h.kept (row := none) ⟨hb.os, hb.tape, hb.output, hb.size, fun k hk _ => hb.block k hk⟩ (by cases hv : v.ownBlock <;> simp)

set_option maxHeartbeats 400000 in
theorem refText_any (A : Option Addr) (n c : Nat) (l : List UInt8) (s : ByteArray) (w : World) (h : Hold w A n c l) (hn : n + s.size ≤ 140737488354000) :
    Calls Try.prog 14 #[.slice A n c, .string s] w (NewRow w (l ++ dig s.size ++ s.data.toList)) := by
  obtain ⟨i0, hi, hz0, hz1, hz2⟩ := info_parts Try.info5
  have H := Lib.hid h
  clear h
  go_enter Try.func14, Try.ntmps14
  go_wp2_with (first
    | (go_at_call 13; refine (refInt_any A n c l s.size w H.out (by omega)).mono ?_; rintro e w1 ⟨A1, n1, c1, rfl, hown1, hb1⟩; have hn1 : n1 ≤ n + 8 := (by have h1 := hown1.1; rw [bv_length, List.length_append, dig_length, H.out.len] at h1; omega))
    | (at_builtin; refine Lib.wpList_append_own_string _ rfl (.tmp 8) (.tmp 9) 22 9 rfl w.heap.size 5 i0 Try.underlying22 Try.underlying9 hi hz0 hz1 hz2 (.slice A1 n1 c1) n1 (bv (l ++ dig s.size)) rfl hown1 s rfl (by unfold maxLen; omega) (by omega) hb1.size ?_; intro v2 w2 hown2 hgrow2 _))
  obtain ⟨A2, c2, hv2⟩ := own_form hown2
  rw [bv_str, ← bv_append] at hown2
  rw [hv2] at hown2 ⊢
  go_wp2
  go_ret
  exact ⟨A2, _, c2, rfl, hown2, hb1.grown hgrow2 hb1.size (fun k hk => (hown1.lt k hk).1)⟩

set_option maxHeartbeats 400000 in
theorem refBool_any (A : Option Addr) (n c : Nat) (l : List UInt8) (x : Bool) (w : World) (h : Hold w A n c l) (hn : n ≤ 140737488354000) :
    Calls Try.prog 15 #[.slice A n c, .bool x] w (NewRow w (l ++ [if x then 1 else 0])) := by
  have H := Lib.hid h
  clear h
  cases x
  · go_enter Try.func15, Try.ntmps15
    go_wp2_with (first
      | (at_builtin; refine wpList_append_hold rfl (.tmp 6) (.tmp 7) rfl w.heap.size (.slice none 0 0) 0 [] rfl (World.ownsRow_nil _ _ _ _) A n c l rfl H.out (by omega) (Nat.le_refl _) ?_; intro A1 c1 w1 hown1 hgrow1; simp only [Nat.zero_add, List.nil_append] at hown1; have hb1 : Below w.heap.size w w1 := (Below.refl _ _).grown hgrow1 (Nat.le_refl _) (by simp [Value.ownBlock]))
      | (at_builtin; refine wpList_append_hold rfl (.tmp 13) (.tmp 14) rfl w.heap.size (.slice A1 n c1) n l rfl (hown1.alloc _) (some ⟨w1.heap.size, 0, none⟩) 1 1 [0] rfl (Hold.new w1 [0] 5 (0, 0) _ rfl) (by omega) (by have := hb1.size; simp; omega) ?_; intro A3 c3 w3 hown3 hgrow3))
    go_ret
    exact ⟨A3, _, c3, rfl, hown3, (hb1.alloc hb1.size _).grown hgrow3 (by have := hb1.size; simp; omega) (fun k hk => (hown1.lt k hk).1)⟩
  · go_enter Try.func15, Try.ntmps15
    go_wp2_with (first
      | (at_builtin; refine wpList_append_hold rfl (.tmp 6) (.tmp 7) rfl w.heap.size (.slice none 0 0) 0 [] rfl (World.ownsRow_nil _ _ _ _) A n c l rfl H.out (by omega) (Nat.le_refl _) ?_; intro A1 c1 w1 hown1 hgrow1; simp only [Nat.zero_add, List.nil_append] at hown1; have hb1 : Below w.heap.size w w1 := (Below.refl _ _).grown hgrow1 (Nat.le_refl _) (by simp [Value.ownBlock]))
      | (at_builtin; refine wpList_append_hold rfl (.tmp 10) (.tmp 11) rfl w.heap.size (.slice A1 n c1) n l rfl (hown1.alloc _) (some ⟨w1.heap.size, 0, none⟩) 1 1 [1] rfl (Hold.new w1 [1] 5 (0, 0) _ rfl) (by omega) (by have := hb1.size; simp; omega) ?_; intro A3 c3 w3 hown3 hgrow3))
    go_ret
    exact ⟨A3, _, c3, rfl, hown3, (hb1.alloc hb1.size _).grown hgrow3 (by have := hb1.size; simp; omega) (fun k hk => (hown1.lt k hk).1)⟩
end Go.Proofs.Ytoidbpkclaebpaa
