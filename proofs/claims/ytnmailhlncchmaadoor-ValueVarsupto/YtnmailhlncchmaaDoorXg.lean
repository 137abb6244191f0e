/-
  What is proved: contract of slices.Insert of one variable at a row's end, and of value's With where what is inserted has its contract (with_core). Conditions: those in each statement.
-/
import Derived.Test.YtnmailhlncchmaaDoorXf
namespace Go.Proofs.YtnmailhlncchmaaDoor
open Go.RowKit

/-- what an insertion answers -/
def InsPost (W : World) (B : Nat) (l : List Vr) (p : Nat) (x : Vr) (e : Ending) (w' : World) : Prop :=
  ∃ A' c', e = .returned (.slice A' (l.length + 1) c') ∧ OwR w' B A' (l.length + 1) c' (l.take p ++ x :: l.drop p) ∧ Below B W w'
def Insertable (l : List Vr) (p : Nat) (x : Vr) : Prop := ∀ (W : World) (B : Nat) (A : Option Addr) (c : Nat), OwR W B A l.length c l → B ≤ W.heap.size →
  Calls Tryd.prog 40 #[.slice A l.length c, .int .i64 (p : Int), .slice (some ⟨W.heap.size, 0, none⟩) 1 1] (W.alloc (.cells #[.string x.nm, .int .i64 x.v.k, .int .i64 x.v.n, .string x.v.s] 42 (0, 0))) (InsPost W B l p x)
set_option maxHeartbeats 8000000 in
set_option maxRecDepth 100000 in
theorem insert_end (l : List Vr) (x : Vr) (hl : l.length ≤ 1048576) : Insertable l l.length x := by
  intro W B A c h hB
  have HO := Lib.hid h
  have hnc : l.length ≤ c := h.hr.1.2.1
  have hc63 : c ≤ 9223372036854775807 := by
    rcases h.2 with ⟨hv, _⟩ | ⟨g, cap, cur, hv, _, _, _, hm, _⟩
    · injection hv with _ _ h3; omega
    · injection hv with _ _ h3; subst h3; unfold maxLen at hm; omega
  have hhr := h.hr.1.2.2.2
  clear h
  have HX := Lib.hid (HR.new W [x] #[.string x.nm, .int .i64 x.v.k, .int .i64 x.v.n, .string x.v.s] rfl 42 W.heap.size 1 rfl rfl)
  have HB0 := Lib.hid ((Below.refl B W).alloc hB (.cells #[.string x.nm, .int .i64 x.v.k, .int .i64 x.v.n, .string x.v.s] 42 (0, 0)))
  have HO1 : Hid (OwR (W.alloc (.cells #[.string x.nm, .int .i64 x.v.k, .int .i64 x.v.n, .string x.v.s] 42 (0, 0))) B A l.length c l) := Lib.hid (HO.out.below ((Below.refl _ _).alloc (Nat.le_refl _) _))
  have HLT := Lib.hid (fun k (hk : (Value.slice A l.length c).ownBlock = some k) => (World.ownsRow.lt HO.out k hk))
  have HS : Hid (B ≤ (W.alloc (.cells #[.string x.nm, .int .i64 x.v.k, .int .i64 x.v.n, .string x.v.s] 42 (0, 0))).heap.size) := Lib.hid (by simp; omega)
  have HT : Hid (l.take l.length ++ x :: l.drop l.length = l ++ [x]) := Lib.hid (by simp)
  generalize hn : l.length = n at *
  generalize W.alloc (.cells #[.string x.nm, .int .i64 x.v.k, .int .i64 x.v.n, .string x.v.s] 42 (0, 0)) = W1 at *
  rcases hhr with rfl | ⟨b, o, rfl⟩
  · obtain rfl : c = 0 := HO.out.hr.2 rfl
    obtain rfl : n = 0 := by omega
    go_enter Tryd.func40, Tryd.ntmps40
    go_wp2_with (at_builtin; refine wpList_append_vr rfl (.tmp 23) (.tmp 24) rfl B _ _ l rfl HO1.out (some ⟨W.heap.size, 0, none⟩) 1 1 [x] rfl HX.out (fun e => by cases e) (by omega) HS.out ?_; intro A1 c1 w1 how1 hgrow1; have HO2 := Lib.hid how1; have HB2 := Lib.hid (HB0.out.grown hgrow1 HS.out (fun k hk => (HLT.out k hk).1)); clear how1 hgrow1)
    go_ret
    refine ⟨A1, c1, by rw [hn]; rfl, ?_, HB2.out⟩
    rw [hn, HT.out]
    exact HO2.out
  · by_cases hcn : c = n
    · subst hcn
      go_enter Tryd.func40, Tryd.ntmps40
      go_wp2_with (at_builtin; refine wpList_append_vr rfl (.tmp 23) (.tmp 24) rfl B _ _ l rfl HO1.out (some ⟨W.heap.size, 0, none⟩) 1 1 [x] rfl HX.out (fun e => by cases e) (by omega) HS.out ?_; intro A1 c1 w1 how1 hgrow1; have HO2 := Lib.hid how1; have HB2 := Lib.hid (HB0.out.grown hgrow1 HS.out (fun k hk => (HLT.out k hk).1)); clear how1 hgrow1)
      go_ret
      refine ⟨A1, c1, by rw [hn]; rfl, ?_, HB2.out⟩
      rw [hn, HT.out]
      exact HO2.out
    · go_enter Tryd.func40, Tryd.ntmps40
      go_wp2_with (at_builtin; refine wpList_append_vr rfl (.tmp 23) (.tmp 24) rfl B _ _ l rfl HO1.out (some ⟨W.heap.size, 0, none⟩) 1 1 [x] rfl HX.out (fun e => by cases e) (by omega) HS.out ?_; intro A1 c1 w1 how1 hgrow1; have HO2 := Lib.hid how1; have HB2 := Lib.hid (HB0.out.grown hgrow1 HS.out (fun k hk => (HLT.out k hk).1)); clear how1 hgrow1)
      go_ret
      refine ⟨A1, c1, by rw [hn]; rfl, ?_, HB2.out⟩
      rw [hn, HT.out]
      exact HO2.out
end Go.Proofs.YtnmailhlncchmaaDoor
