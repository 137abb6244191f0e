/-
  What is proved: how names stand to one another (bl), which lists of variables may be (varsB); contracts of value's order, of slices.Clone, and of value's Vars. Conditions: those in each statement.
-/
import Derived.Test.YtnmailhlncchmaaDoorXw
import Derived.Lib.SliceRun
namespace Go.Proofs.YtnmailhlncchmaaDoor
open Go.RowKit

/-- one name ahead of another, byte by byte -/
def bl (a b : ByteArray) : Bool := Op.bytesLess a.toList b.toList
theorem less_irr : ∀ l : List UInt8, Op.bytesLess l l = false
  | [] => rfl
  | a :: l => by simp [Op.bytesLess, less_irr l]
theorem less_trans : ∀ a b c : List UInt8, Op.bytesLess a b = true → Op.bytesLess b c = true → Op.bytesLess a c = true
  | _, _, [], _, h => by cases ‹List UInt8› <;> simp [Op.bytesLess] at h
  | [], _, _ :: _, _, _ => rfl
  | a :: x, [], c :: z, h, _ => by simp [Op.bytesLess] at h
  | a :: x, b :: y, c :: z, h, h2 => by
    simp only [Op.bytesLess, Bool.or_eq_true, decide_eq_true_eq, Bool.and_eq_true, beq_iff_eq] at h h2 ⊢
    rcases h with h | ⟨rfl, h⟩
    · rcases h2 with h2 | ⟨rfl, h2⟩
      · exact .inl (UInt8.lt_trans h h2)
      · exact .inl h
    · rcases h2 with h2 | ⟨rfl, h2⟩
      · exact .inl h2
      · exact .inr ⟨rfl, less_trans x y z h h2⟩
theorem cmp_less : ∀ a b : List UInt8, Lib.compareBytes a b = if Op.bytesLess a b then -1 else if a = b then 0 else 1
  | [], [] => rfl
  | [], _ :: _ => rfl
  | _ :: _, [] => rfl
  | a :: x, b :: y => by
    simp only [Lib.compareBytes, Op.bytesLess]
    by_cases h : a < b
    · simp [h]
    · by_cases h2 : b < a
      · have h3 : a ≠ b := fun e => by subst e; exact h h2
        simp [h, h2, h3]
      · have h3 : a = b := UInt8.le_antisymm (UInt8.not_lt.1 h2) (UInt8.not_lt.1 h)
        subst h3
        simp [h, cmp_less x y]
theorem bl_irr (a : ByteArray) : bl a a = false := less_irr _
theorem bl_trans {a b c : ByteArray} (h : bl a b = true) (k : bl b c = true) : bl a c = true := less_trans _ _ _ h k
theorem cmp_bl (a b : ByteArray) : Lib.compareBytes a.data.toList b.data.toList = if bl a b then -1 else if a = b then 0 else 1 := by
  rw [cmp_less]
  unfold bl
  rw [ByteArray.toList_eq, ByteArray.toList_eq]
  by_cases h : a = b
  · subst h; rw [if_pos rfl, if_pos rfl]
  · have : ¬ a.data.toList = b.data.toList := fun e => h (ba_ext e)
    simp [h, this]
theorem bl_total (a b : ByteArray) (h : bl a b = false) (h2 : bl b a = false) : a = b := by
  have h1 := cmp_bl a b
  have k1 := cmp_bl b a
  rw [h] at h1
  rw [h2] at k1
  by_cases e : a = b
  · exact e
  · exfalso
    rw [if_neg (by simp), if_neg e] at h1
    rw [if_neg (by simp), if_neg (Ne.symm e)] at k1
    clear h h2 e
    revert h1 k1
    generalize a.data.toList = x
    generalize b.data.toList = y
    intro h1 k1
    induction x generalizing y with
    | nil => cases y <;> simp [Lib.compareBytes] at h1
    | cons p x ih =>
      cases y with
      | nil => simp [Lib.compareBytes] at k1
      | cons q y =>
        simp only [Lib.compareBytes] at h1 k1
        by_cases e1 : p < q
        · rw [if_pos e1] at h1; cases h1
        · by_cases e2 : q < p
          · rw [if_pos e2] at k1; cases k1
          · rw [if_neg e1, if_neg e2] at h1
            rw [if_neg e2, if_neg e1] at k1
            exact ih y h1 k1
/-- may the variables be that stand behind one? -/
def vsF : Option ByteArray → List Vr → Bool
  | _, [] => true
  | p, x :: r => nameB x.nm.data.toList && (mayV x.v && ((match p with | none => true | some q => bl q x.nm) && vsF (some x.nm) r))
def varsB (l : List Vr) : Bool := decide (l.length ≤ 16) && vsF none l
/-- the name ahead of a place -/
def prevN (l : List Vr) (i : Nat) : Option ByteArray := if i = 0 then none else (l[i - 1]?).map (·.nm)
theorem vsF_on (l : List Vr) (i : Nat) (h : i < l.length) : vsF (prevN l i) (l.drop i) = (nameB l[i].nm.data.toList && (mayV l[i].v && ((match prevN l i with | none => true | some q => bl q l[i].nm) && vsF (prevN l (i + 1)) (l.drop (i + 1))))) := by
  rw [List.drop_eq_getElem_cons h]
  have e : prevN l (i + 1) = some l[i].nm := by
    unfold prevN
    rw [if_neg (by omega), show i + 1 - 1 = i by omega, List.getElem?_eq_getElem h]; rfl
  rw [e]; rfl
theorem prev_some (l : List Vr) (i : Nat) (h : i < l.length) (h0 : 0 < i) : prevN l i = some (l[i - 1]'(by omega)).nm := by
  unfold prevN
  rw [if_neg (by omega), List.getElem?_eq_getElem (by omega)]; rfl

set_option maxHeartbeats 4000000 in
set_option maxRecDepth 100000 in
theorem order_any (w : World) (x : Vr) (t : ByteArray) : Calls Tryd.prog 39 #[.agg #[.string x.nm, .int .i64 x.v.k, .int .i64 x.v.n, .string x.v.s], .string t] w fun e w' => e = .returned (.int .i64 (Lib.compareBytes x.nm.data.toList t.data.toList)) ∧ Below w.heap.size w w' := by
  have HC := Lib.hid (fun W => Tryd.strings_Compare x.nm t W)
  go_enter Tryd.func39, Tryd.ntmps39
  go_wp2_with (go_at_call 50; refine (HC.out _).mono ?_; rintro e w2 ⟨rfl, rfl⟩)
  go_ret
  exact ⟨rfl, (Below.refl _ _).alloc (Nat.le_refl _) _⟩
/-- a row of the call's own, however -/
def RPost (w : World) (l : List Vr) (e : Ending) (w' : World) : Prop := ∃ A n c, e = .returned (.slice A n c) ∧ OwR w' w.heap.size A n c l ∧ Below w.heap.size w w'
set_option maxHeartbeats 4000000 in
set_option maxRecDepth 100000 in
theorem clone_any (w : World) (A : Option Addr) (n c : Nat) (l : List Vr) (h : HR w A n c l) (hc0 : A = none → c = 0) (hn : n * 48 ≤ 140737488355328) :
    Calls Tryd.prog 37 #[.slice A n c] w (RPost w l) := by
  have q33 : ∀ (w : World) (a : Option Addr) (n c n' c' : Nat), (binOp .eql 33 (.slice a n c) (.slice none n' c')).run Tryd.prog w = .ok (.bool a.isNone) w := fun w a n c n' c' => Lib.run_eql_slice_nil w _ _ a n c n' c' Tryd.underlying33
  have HH := Lib.hid h
  rcases h.2.2.2 with rfl | ⟨b, o, rfl⟩
  · obtain rfl : c = 0 := hc0 rfl
    obtain rfl : n = 0 := by have := h.2.1; omega
    obtain rfl : l = [] := List.length_eq_zero_iff.1 h.1
    clear h
    go_enter Tryd.func37, Tryd.ntmps37
    go_wp2
    go_ret
    exact ⟨none, 0, 0, rfl, OwR.nil _ _, Below.refl _ _⟩
  · clear h
    go_enter Tryd.func37, Tryd.ntmps37
    go_wp2_with (at_builtin; refine wpList_append_vr rfl (.tmp 5) (.tmp 6) rfl w.heap.size (.slice (some ⟨w.heap.size, 0, none⟩) 0 0) 0 [] rfl (OwR.new w [] #[] rfl _ 0 rfl rfl (by omega) _ (Nat.le_refl _)) (some ⟨b, o, none⟩) n c l rfl (HH.out.below ((Below.refl _ _).alloc (Nat.le_refl _) _)) (fun e => by cases e) (by omega) (by simp) ?_; intro A1 c1 w1 how1 hgrow1; rw [Nat.zero_add] at *; have HO1 := Lib.hid how1; have HB1 := Lib.hid (((Below.refl w.heap.size w).alloc (Nat.le_refl _) (.cells #[] 42 (0, 0))).grown hgrow1 (by simp) (fun k hk => by simp [Value.ownBlock] at hk; omega)); clear how1 hgrow1)
    go_ret
    exact ⟨A1, n, c1, rfl, HO1.out, HB1.out⟩
end Go.Proofs.YtnmailhlncchmaaDoor
