/-
  What is proved: the texts Ra, Rb, Rc, Rd, Re in one: what each proves stands ahead of it. Conditions: those in each statement.
-/
import Derived.Test.YtbfhlleipeipbaaM4
/- What is proved: the contracts of few, batch, pairs, and of the document's Same: changes of the document's as changes of the program's, and back. Conditions: those in each statement. -/
namespace Go.Proofs.Ytbfhlleipeipbaa
open Go.Shelf Go.RowKit Go.Lib Go.Sort

theorem info48 : (Try.prog.info? 48).map (fun i => (i.zero, i.size, i.bytes)) = some (some (.agg #[.string ⟨#[]⟩, .string ⟨#[]⟩, .bool false]), 3, 40) := by kernel_rfl
theorem info48' : ∃ i0, Try.prog.info? 48 = some i0 ∧ i0.zero = some (.agg #[.string ⟨#[]⟩, .string ⟨#[]⟩, .bool false]) ∧ i0.size = 3 ∧ i0.bytes = 40 := by
  have h := info48
  cases hi : Try.prog.info? 48 with
  | none => rw [hi] at h; cases h
  | some i0 =>
    rw [hi] at h
    simp only [Option.map_some, Option.some.injEq, Prod.mk.injEq] at h
    exact ⟨i0, rfl, h.1, h.2.1, h.2.2⟩
/-- a row of changes of the call's own, of either type -/
theorem own_hcG {w : World} {B n c : Nat} {A : Option Addr} {l : List Cg} {t : TypeId} (h : w.ownsRow B t 3 (.slice A n c) n (chV l)) : HC w A n c l ∧ (A = none → c = 0) := by
  have hl : l.length = n := by have := h.1; rw [chV_length] at this; omega
  rcases h.2 with ⟨hv, h0⟩ | ⟨g, cap, cur, hv, hb, hg, hnc, hm, hs, ht⟩
  · injection hv with h1 h2 h3
    subst h1 h2 h3
    exact ⟨⟨hl, Nat.le_refl _, fun h => absurd h (by omega), .inl rfl⟩, fun _ => rfl⟩
  · injection hv with h1 h2 h3
    subst h1 h3
    refine ⟨⟨hl, hnc, fun _ => ⟨g, 0, rfl, (Array.getElem?_eq_some_iff.1 hg).1, fun t ht => ?_⟩, .inr ⟨g, 0, rfl⟩⟩, fun e => by cases e⟩
    have ht' : t < l.length * 3 := by simpa using ht
    refine ⟨?_, ?_⟩
    · subst hl
      rw [Nat.zero_add, h.cellAt t ht', flatK_get3 l t ht', List.getElem?_eq_getElem (by rw [chV_length]; exact ht')]; rfl
    · rw [Nat.zero_add]; exact h.frozenAt t
theorem own_formG {w : World} {base : Nat} {v : Value} {n : Nat} {xs : List Value} {t : TypeId} (h : w.ownsRow base t 3 v n xs) : ∃ A c, v = .slice A n c ∧ (A = none ∨ ∃ b o, A = some ⟨b, o, none⟩) := by
  rcases h.2 with ⟨rfl, rfl⟩ | ⟨g, cap, cur, rfl, _⟩
  · exact ⟨_, _, rfl, .inl rfl⟩
  · exact ⟨_, _, rfl, .inr ⟨g, 0, rfl⟩⟩
/-- 'append(out, xs...)' of the document's changes, onto a row of the call's own, xs nil or not. -/
theorem wpList_append_hr {w : World} {ops : Array Oper} {rest : List Oper} {o : Oper} {a : Act} {Q : Exit → Act → World → Prop} (hgd : o.guard = none) (s x : Operand)
    (ho : o.op = .call { callee := .builtin .append, args := #[s, x], argTypes := #[31, 31] })
    (base : Nat) (v : Value) (n : Nat) (l : List Cg) (hs : a.eval s = v) (hown : w.ownsRow base 48 3 v n (chV l))
    (A : Option Addr) (m c : Nat) (l2 : List Cg) (hx : a.eval x = .slice A m c) (hh : HC w A m c l2) (hc0 : A = none → c = 0) (hbytes : (n + m) * 40 ≤ 140737488355328) (hbase : base ≤ w.heap.size)
    (h : ∀ A' c' w', w'.ownsRow base 48 3 (.slice A' (n + m) c') (n + m) (chV (l ++ l2)) → w.grownBy w' v.ownBlock → wpList Try.prog ops Q rest (a.put o.dst (.slice A' (n + m) c')) w') : wpList Try.prog ops Q (o :: rest) a w := by
  obtain ⟨i0, hi, hz0, hz1, hz2⟩ := info48'
  rcases hh.2.2.2 with rfl | ⟨b, of, rfl⟩
  · obtain rfl : c = 0 := hc0 rfl
    obtain rfl : m = 0 := by have := hh.2.1; omega
    obtain rfl : l2 = [] := List.length_eq_zero_iff.1 hh.1
    obtain ⟨A', c', rfl, _⟩ := own_formG hown
    refine wpList_append_own_none hgd s x 31 ho base 48 i0 3 Try.underlying31 hi _ n (chV l) hs hown hx ?_
    simpa using h A' c' w (by simpa using hown) (World.grownBy.refl _ _)
  · refine wpList_append_own w hgd s x 31 ho base 48 i0 _ 3 40 Try.underlying31 hi hz0 hz1 hz2 rfl (by decide) v n (chV l) hs hown ⟨b, of, none⟩ m c (chV l2) hx (by rw [chV_length, hh.1]) (fun j u hu => ?_) (chV_one l2) (by unfold maxLen; omega) (by omega) hbase ?_
    · rcases Nat.eq_zero_or_pos m with h0 | h0
      · subst h0
        obtain rfl : l2 = [] := List.length_eq_zero_iff.1 hh.1
        simp [chV] at hu
      · obtain ⟨b', o', he, _, hH⟩ := hh.2.2.1 h0
        cases he
        rw [Addr.add_lit]
        exact holdsK_cells hH j u hu
    · intro v' w' hown' hgrow _
      obtain ⟨A', c', rfl, _⟩ := own_formG hown'
      exact h A' c' w' (by rw [chV_append]; exact hown') hgrow
/-- a new row of changes, of either type -/
theorem HC.newG (w : World) (l : List Cg) (C : Array Value) (hC : C = (chV l).toArray) (t : TypeId) (g n : Nat) (hg : g = w.heap.size) (hn : n = l.length) : HC (w.alloc (.cells C t)) (some ⟨g, 0, none⟩) n n l := by
  subst hg hn hC
  refine ⟨rfl, Nat.le_refl _, fun _ => ⟨w.heap.size, 0, rfl, by simp, fun u hu => ?_⟩, .inr ⟨_, _, rfl⟩⟩
  have hu' : u < l.length * 3 := by simpa using hu
  rw [flatK_get3 l u hu']
  refine ⟨?_, by unfold World.frozen?; rw [heap_alloc_new]; simp⟩
  rw [cell_of_row _ w.heap.size (0 + u) (chV l).toArray t (0, 0) (heap_alloc_new w _)]
  simp [List.getElem?_eq_getElem (show u < (chV l).length by rw [chV_length]; exact hu')]

/-- the line that puts a change behind the others: values, by number -/
def apF (b o j n c q cap : Nat) (A3 : Option Addr) (c3 m : Nat) (k v : ByteArray) (g : Bool) : Nat → Value → Prop
  | 0, x => x = .slice A3 j c3
  | 1, x | 6, x | 11, x => x = .slice (some ⟨b, o, none⟩) n c
  | 2, x | 7, x | 12, x => x = .int .i64 (j : Int)
  | 3, x | 4, x | 8, x | 13, x => x = .pointer (some ⟨b, o + j * 3, none⟩)
  | 9, x => x = .pointer (some ⟨b, o + j * 3 + 1, none⟩)
  | 14, x => x = .pointer (some ⟨b, o + j * 3 + 2, none⟩)
  | 5, x => x = .string k
  | 10, x => x = .string v
  | 15, x => x = .bool g
  | 16, x => x = .agg #[.string k, .string v, .bool g]
  | 17, x => x = .slice (some ⟨m, 0, none⟩) 1 1
  | 18, x | 19, x => x = .slice (some ⟨q, 0, none⟩) (j + 1) cap
  | _, _ => True
def apJ (V W1 W2 : World) (v3 : Value) (ls : Nat → Bool) (a : Act) (W : World) : Prop :=
  (ls 19 = false → a.tmps.getD 3 undef = v3) ∧ W = if ls 18 = true then W2 else if ls 17 = true then W1 else V
section
variable {V W1 W2 W : World} {v3 : Value} {ls : Nat → Bool} {a : Act} {i : Nat} {d : Option Tmp}
theorem apJ.pure (h : apJ V W1 W2 v3 ls a W) (h1 : i ≠ 17) (h2 : i ≠ 18) (h3 : i ≠ 19) (hd : d ≠ some 3) (v : Value) : apJ V W1 W2 v3 (updB ls i) (a.put d v) W := by
  unfold apJ
  rw [updB_other ls (Ne.symm h1), updB_other ls (Ne.symm h2), updB_other ls (Ne.symm h3), put_other a d v 3 hd]
  exact h
theorem apJ.w0 (h : apJ V W1 W2 v3 ls a W) (h1 : ls 17 = false) (h2 : ls 18 = false) : W = V := by have := h.2; rwa [h1, h2, if_neg Bool.false_ne_true, if_neg Bool.false_ne_true] at this
theorem apJ.w1 (h : apJ V W1 W2 v3 ls a W) (h1 : ls 17 = true) (h2 : ls 18 = false) : W = W1 := by have := h.2; rwa [h1, h2, if_neg Bool.false_ne_true, if_pos rfl] at this
theorem apJ.to1 (h : apJ V W1 W2 v3 ls a W) (h2 : ls 18 = false) (hd : d ≠ some 3) (v : Value) : apJ V W1 W2 v3 (updB ls 17) (a.put d v) W1 := by
  refine ⟨fun h3 => ?_, ?_⟩
  · rw [updB_other ls (by decide : 19 ≠ 17)] at h3
    rw [put_other a d v 3 hd]; exact h.1 h3
  · rw [updB_other ls (by decide : 18 ≠ 17), h2, updB_at, if_neg Bool.false_ne_true, if_pos rfl]
theorem apJ.to2 (h : apJ V W1 W2 v3 ls a W) (hd : d ≠ some 3) (v : Value) : apJ V W1 W2 v3 (updB ls 18) (a.put d v) W2 := by
  refine ⟨fun h3 => ?_, ?_⟩
  · rw [updB_other ls (by decide : 19 ≠ 18)] at h3
    rw [put_other a d v 3 hd]; exact h.1 h3
  · rw [updB_at, if_pos rfl]
theorem apJ.to3 (h : apJ V W1 W2 v3 ls a W) (h2 : ls 18 = true) (a' : Act) : apJ V W1 W2 v3 (updB ls 19) a' W2 ∧ W = W2 := by
  have hw := h.2
  rw [h2, if_pos rfl] at hw
  refine ⟨⟨fun h3 => ?_, ?_⟩, hw⟩
  · rw [updB_at] at h3; cases h3
  · rw [updB_other ls (by decide : 18 ≠ 19), h2, if_pos rfl]
theorem apJ.w2 (h : apJ V W1 W2 v3 ls a W) (h2 : ls 18 = true) : W = W2 := by have := h.2; rwa [h2, if_pos rfl] at this
end
/-- 'append' of one change, as a run -/
theorem ap_run {V : World} {base j c3 : Nat} {A3 : Option Addr} {l : List Cg} {x : Cg} {t s : TypeId} (i0 : TypeInfo) (hu : Try.prog.underlying s = some (.slice t)) (hi : Try.prog.info? t = some i0) (hz0 : i0.zero = some (.agg #[.string ⟨#[]⟩, .string ⟨#[]⟩, .bool false])) (hz1 : i0.size = 3) (hz2 : i0.bytes = 40)
    (hown : V.ownsRow base t 3 (.slice A3 j c3) j (chV l)) (hby : (j + 1) * 40 ≤ 140737488355328) (hbase : base ≤ V.heap.size) :
    ∃ q cap W2, (∀ ty, (Builtin.append_ #[s, s] ty #[.slice A3 j c3, .slice (some ⟨V.heap.size, 0, none⟩) 1 1]).run Try.prog (V.alloc (.cells #[.string x.key, .string x.val, .bool x.gone] t)) = .ok (.slice (some ⟨q, 0, none⟩) (j + 1) cap) W2) ∧
      W2.ownsRow base t 3 (.slice (some ⟨q, 0, none⟩) (j + 1) cap) (j + 1) (chV (l ++ [x])) ∧ Below base V W2 := by
  have hown' := hown.alloc (.cells #[.string x.key, .string x.val, .bool x.gone] t)
  obtain ⟨Q, cap, W7, hr, hown7, hgrow, _, _⟩ := run_append_lies (P := Try.prog) (V.alloc (.cells #[.string x.key, .string x.val, .bool x.gone] t)) s 0 base t i0 _ 3 40 hu hi hz0 hz1 hz2 rfl (by omega) (.slice A3 j c3) j (chV l) hown'
    ⟨V.heap.size, 0, none⟩ 1 1 (encC x) (by rw [encC_len]) (World.news_of_block (cs := #[.string x.key, .string x.val, .bool x.gone]) (t := t) (fr := (0, 0)) (heap_alloc_new V _)) (encC_one x) (by omega) (by unfold maxLen; omega) hby (by simp; omega) _ rfl
  refine ⟨Q, cap, W7, fun ty => hr, ?_, ?_⟩
  · rw [chV_append, show chV [x] = encC x by simp [chV]]
    exact hown7
  · exact ((Below.refl base V).alloc hbase _).grown hgrow (by simp; omega) (fun k hk => (hown.lt k hk).1)

set_option maxHeartbeats 400000 in
theorem few_any (A : Option Addr) (n c : Nat) (w : World) : Calls Try.prog 11 #[.slice A n c] w fun e w' => e = .returned (.bool (decide (n ≤ 300))) ∧ w = w' := by
  go_enter Try.func11, Try.ntmps11
  go_wp2
  go_ret
  refine ⟨?_, rfl⟩
  congr 2
  by_cases h : n ≤ 300
  · rw [decide_eq_true h]; simp; omega
  · rw [decide_eq_false h]; simp; omega

set_option maxRecDepth 100000 in
set_option maxHeartbeats 2000000 in
theorem batch_any (A : Option Addr) (n c : Nat) (l : List Cg) (w : World) (h : HC w A n c l) (hb : n * 40 ≤ 140737488355328) :
    Calls Try.prog 14 #[.slice A n c] w (UndPost w l) := by
  have hn := h.1
  have H := Lib.hid h
  have HN := Lib.hid hn
  clear h hn
  go_enter Try.func14, Try.ntmps14
  go_wp2_with fail
  go_loopg [3, 4] n (fun kx v3 v4 wr => ∃ (j : Nat) (A3 : Option Addr) (c3 : Nat), v3 = .slice A3 j c3 ∧ v4 = .int .i64 (j : Int) ∧ j ≤ n ∧ n - j ≤ kx ∧ Aside (wr.ownsRow w.heap.size 52 3 (.slice A3 j c3) j (chV (l.take j))) ∧ Aside (Below w.heap.size w wr))
  case atStart => exact ⟨0, none, 0, rfl, rfl, Nat.zero_le _, Nat.le_refl _, (World.ownsRow_nil _ _ _ _ : Aside _), (Below.refl _ _ : Aside _)⟩
  case round =>
    obtain ⟨j, A3, c3, rfl, rfl, hjn, hkx, HO, HB⟩ := hrel
    by_cases hlt : j < n
    · have hltz : (j : Int) < (n : Int) := by omega
      have pj : (0 : Int) ≤ (j : Int) := by omega
      have hjl : j < l.length := by rw [HN.out]; exact hlt
      obtain ⟨b, o, eA, hbl, e0, e1, e2⟩ := H.out.elem j hjl
      have htk : l.take (j + 1) = l.take j ++ [l[j]] := List.take_succ_eq_append_getElem hjl
      generalize l[j] = x at *
      obtain ⟨xk, xv, xg⟩ := x
      subst eA
      simp only at e0 e1 e2
      obtain ⟨V, hV⟩ : ∃ V, V = wr.drew := ⟨_, rfl⟩
      have hbV : Below wr.heap.size wr V := by rw [hV]; exact (Below.refl _ _).drew
      have hB : Below w.heap.size w V := HB.out.trans (hbV.mono HB.out.size)
      have d0 := (hB.cell (p := ⟨b, o + j * 3, none⟩) hbl).trans e0
      have d1 := (hB.cell (p := ⟨b, o + j * 3 + 1, none⟩) hbl).trans e1
      have d2 := (hB.cell (p := ⟨b, o + j * 3 + 2, none⟩) hbl).trans e2
      have HOV := Lib.hid (own_belowG HO.out hbV)
      have HBV := Lib.hid hB
      have HV := Lib.hid hV
      have HTK := Lib.hid htk
      have hby : (j + 1) * 40 ≤ 140737488355328 := by omega
      clear e0 e1 e2 hV hbV hB htk
      obtain ⟨i0, hi0, hz0, hz1, hz2⟩ := info52'
      obtain ⟨q, cap, W2, hrn, ho2, hb2⟩ := ap_run (V := V) (x := ⟨xk, xv, xg⟩) (s := 36) i0 Try.underlying36 hi0 hz0 hz1 hz2 HOV.out hby HBV.out.size
      have HRN := Lib.hid hrn
      have HO2 := Lib.hid ho2
      have HB2 := Lib.hid (HBV.out.trans hb2)
      clear hrn ho2 hb2 hz0 hz1 hz2 hi0 HOV HBV
      go_wp2_with fail
      refine wp_region_stepsA (apF b o j n c q cap A3 c3 V.heap.size xk xv xg) (apJ V (V.alloc (.cells #[.string xk, .string xv, .bool xg] 52)) W2 (.slice A3 j c3)) (by kernel_rfl) (by kernel_rfl) ⟨fun _ => rfl, by rw [HV.out]; rfl⟩ ?_ ?_
      · refine ⟨?_, ?_, ?_, ?_, ?_, ?_, ?_, ?_, ?_, ?_, ?_, ?_, ?_, ?_, ?_, ?_, ?_, ?_, ?_, ?_, trivial⟩
        · intro y W ls hJ hi hcl hd hoff hf
          left
          refine ⟨rfl, ?_⟩
          have h18 : ls 18 = false := hcl.no hi rfl rfl
          have h19 : ls 19 = false := hcl.no h18 rfl rfl
          have e0 := hJ.1 h19
          go_simp
          exact ⟨_, rfl, rfl, hJ.pure (i := 0) (d := some 11) (by decide) (by decide) (by decide) (by decide) _⟩
        · intro y W ls hJ hi hcl hd hoff hf
          left
          refine ⟨rfl, ?_⟩
          have e0 : y.tmps.getD 0 undef = .slice (some ⟨b, o, none⟩) n c := hoff.slot 0 (no_dst (by kernel_rfl))
          go_simp
          exact ⟨_, rfl, rfl, hJ.pure (i := 1) (d := some 12) (by decide) (by decide) (by decide) (by decide) _⟩
        · intro y W ls hJ hi hcl hd hoff hf
          left
          refine ⟨rfl, ?_⟩
          have e0 : y.tmps.getD 4 undef = .int .i64 (j : Int) := hoff.slot 4 (no_dst (by kernel_rfl))
          go_simp
          exact ⟨_, rfl, rfl, hJ.pure (i := 2) (d := some 13) (by decide) (by decide) (by decide) (by decide) _⟩
        · intro y W ls hJ hi hcl hd hoff hf
          left
          refine ⟨rfl, ?_⟩
          have e0 : y.tmps.getD 12 undef = .slice (some ⟨b, o, none⟩) n c := hf 1 _ (hd 1 rfl) rfl
          have e1 : y.tmps.getD 13 undef = .int .i64 (j : Int) := hf 2 _ (hd 2 rfl) rfl
          go_simp
          exact ⟨_, rfl, rfl, hJ.pure (i := 3) (d := some 14) (by decide) (by decide) (by decide) (by decide) _⟩
        · intro y W ls hJ hi hcl hd hoff hf
          left
          refine ⟨rfl, ?_⟩
          have e0 : y.tmps.getD 14 undef = .pointer (some ⟨b, o + j * 3, none⟩) := hf 3 _ (hd 3 rfl) rfl
          go_simp
          exact ⟨_, rfl, rfl, hJ.pure (i := 4) (d := some 15) (by decide) (by decide) (by decide) (by decide) _⟩
        · intro y W ls hJ hi hcl hd hoff hf
          left
          refine ⟨rfl, ?_⟩
          have e0 : y.tmps.getD 15 undef = .pointer (some ⟨b, o + j * 3, none⟩) := hf 4 _ (hd 4 rfl) rfl
          have h16 : ls 16 = false := hcl.no hi rfl rfl
          have h17 : ls 17 = false := hcl.no h16 rfl rfl
          have h18 : ls 18 = false := hcl.no h17 rfl rfl
          obtain rfl := hJ.w0 h17 h18
          go_simp
          exact ⟨_, rfl, rfl, hJ.pure (i := 5) (d := some 16) (by decide) (by decide) (by decide) (by decide) _⟩
        · intro y W ls hJ hi hcl hd hoff hf
          left
          refine ⟨rfl, ?_⟩
          have e0 : y.tmps.getD 0 undef = .slice (some ⟨b, o, none⟩) n c := hoff.slot 0 (no_dst (by kernel_rfl))
          go_simp
          exact ⟨_, rfl, rfl, hJ.pure (i := 6) (d := some 17) (by decide) (by decide) (by decide) (by decide) _⟩
        · intro y W ls hJ hi hcl hd hoff hf
          left
          refine ⟨rfl, ?_⟩
          have e0 : y.tmps.getD 4 undef = .int .i64 (j : Int) := hoff.slot 4 (no_dst (by kernel_rfl))
          go_simp
          exact ⟨_, rfl, rfl, hJ.pure (i := 7) (d := some 18) (by decide) (by decide) (by decide) (by decide) _⟩
        · intro y W ls hJ hi hcl hd hoff hf
          left
          refine ⟨rfl, ?_⟩
          have e0 : y.tmps.getD 17 undef = .slice (some ⟨b, o, none⟩) n c := hf 6 _ (hd 6 rfl) rfl
          have e1 : y.tmps.getD 18 undef = .int .i64 (j : Int) := hf 7 _ (hd 7 rfl) rfl
          go_simp
          exact ⟨_, rfl, rfl, hJ.pure (i := 8) (d := some 19) (by decide) (by decide) (by decide) (by decide) _⟩
        · intro y W ls hJ hi hcl hd hoff hf
          left
          refine ⟨rfl, ?_⟩
          have e0 : y.tmps.getD 19 undef = .pointer (some ⟨b, o + j * 3, none⟩) := hf 8 _ (hd 8 rfl) rfl
          go_simp
          exact ⟨_, rfl, rfl, hJ.pure (i := 9) (d := some 20) (by decide) (by decide) (by decide) (by decide) _⟩
        · intro y W ls hJ hi hcl hd hoff hf
          left
          refine ⟨rfl, ?_⟩
          have e0 : y.tmps.getD 20 undef = .pointer (some ⟨b, o + j * 3 + 1, none⟩) := hf 9 _ (hd 9 rfl) rfl
          have h16 : ls 16 = false := hcl.no hi rfl rfl
          have h17 : ls 17 = false := hcl.no h16 rfl rfl
          have h18 : ls 18 = false := hcl.no h17 rfl rfl
          obtain rfl := hJ.w0 h17 h18
          go_simp
          exact ⟨_, rfl, rfl, hJ.pure (i := 10) (d := some 21) (by decide) (by decide) (by decide) (by decide) _⟩
        · intro y W ls hJ hi hcl hd hoff hf
          left
          refine ⟨rfl, ?_⟩
          have e0 : y.tmps.getD 0 undef = .slice (some ⟨b, o, none⟩) n c := hoff.slot 0 (no_dst (by kernel_rfl))
          go_simp
          exact ⟨_, rfl, rfl, hJ.pure (i := 11) (d := some 22) (by decide) (by decide) (by decide) (by decide) _⟩
        · intro y W ls hJ hi hcl hd hoff hf
          left
          refine ⟨rfl, ?_⟩
          have e0 : y.tmps.getD 4 undef = .int .i64 (j : Int) := hoff.slot 4 (no_dst (by kernel_rfl))
          go_simp
          exact ⟨_, rfl, rfl, hJ.pure (i := 12) (d := some 23) (by decide) (by decide) (by decide) (by decide) _⟩
        · intro y W ls hJ hi hcl hd hoff hf
          left
          refine ⟨rfl, ?_⟩
          have e0 : y.tmps.getD 22 undef = .slice (some ⟨b, o, none⟩) n c := hf 11 _ (hd 11 rfl) rfl
          have e1 : y.tmps.getD 23 undef = .int .i64 (j : Int) := hf 12 _ (hd 12 rfl) rfl
          go_simp
          exact ⟨_, rfl, rfl, hJ.pure (i := 13) (d := some 24) (by decide) (by decide) (by decide) (by decide) _⟩
        · intro y W ls hJ hi hcl hd hoff hf
          left
          refine ⟨rfl, ?_⟩
          have e0 : y.tmps.getD 24 undef = .pointer (some ⟨b, o + j * 3, none⟩) := hf 13 _ (hd 13 rfl) rfl
          go_simp
          exact ⟨_, rfl, rfl, hJ.pure (i := 14) (d := some 25) (by decide) (by decide) (by decide) (by decide) _⟩
        · intro y W ls hJ hi hcl hd hoff hf
          left
          refine ⟨rfl, ?_⟩
          have e0 : y.tmps.getD 25 undef = .pointer (some ⟨b, o + j * 3 + 2, none⟩) := hf 14 _ (hd 14 rfl) rfl
          have h16 : ls 16 = false := hcl.no hi rfl rfl
          have h17 : ls 17 = false := hcl.no h16 rfl rfl
          have h18 : ls 18 = false := hcl.no h17 rfl rfl
          obtain rfl := hJ.w0 h17 h18
          go_simp
          exact ⟨_, rfl, rfl, hJ.pure (i := 15) (d := some 26) (by decide) (by decide) (by decide) (by decide) _⟩
        · intro y W ls hJ hi hcl hd hoff hf
          left
          refine ⟨rfl, ?_⟩
          have e0 : y.tmps.getD 16 undef = .string xk := hf 5 _ (hd 5 rfl) rfl
          have e1 : y.tmps.getD 21 undef = .string xv := hf 10 _ (hd 10 rfl) rfl
          have e2 : y.tmps.getD 26 undef = .bool xg := hf 15 _ (hd 15 rfl) rfl
          rw [Array.getD_eq_getD_getElem?] at e0 e1 e2
          go_simp
          exact ⟨_, rfl, rfl, hJ.pure (i := 16) (d := some 27) (by decide) (by decide) (by decide) (by decide) _⟩
        · intro y W ls hJ hi hcl hd hoff hf
          left
          refine ⟨rfl, ?_⟩
          have e0 : y.tmps.getD 27 undef = .agg #[.string xk, .string xv, .bool xg] := hf 16 _ (hd 16 rfl) rfl
          rw [Array.getD_eq_getD_getElem?] at e0
          have h18 : ls 18 = false := hcl.no hi rfl rfl
          obtain rfl := hJ.w0 hi h18
          go_simp
          exact ⟨_, rfl, rfl, hJ.to1 (d := some 28) h18 (by decide) _⟩
        · intro y W ls hJ hi hcl hd hoff hf
          left
          refine ⟨rfl, ?_⟩
          have e0 : y.eval (.tmp 11) = .slice A3 j c3 := hf 0 _ (hd 0 rfl) rfl
          have e1 : y.eval (.tmp 28) = .slice (some ⟨V.heap.size, 0, none⟩) 1 1 := hf 17 _ (hd 17 rfl) rfl
          have hWW := hJ.w1 (hd 17 rfl) hi
          rw [hWW] at hJ ⊢
          refine wp_value (v := .slice (some ⟨q, 0, none⟩) (j + 1) cap) (w' := W2) ?_ ⟨_, rfl, rfl, hJ.to2 (d := some 29) (by decide) _⟩
          simp only [execOp, resolve, invoke, builtin, Sem.run_bind, Sem.run_pure, Result.andThen_ok, List.map_toArray, List.map_cons, List.map_nil, e0, e1, HRN.out]
          skip
        · intro y W ls hJ hi hcl hd hoff hf
          left
          refine ⟨rfl, ?_⟩
          have e0 : y.tmps.getD 29 undef = .slice (some ⟨q, 0, none⟩) (j + 1) cap := hf 18 _ (hd 18 rfl) rfl
          obtain rfl := hJ.w2 (hd 18 rfl)
          go_simp
          exact ⟨_, rfl, rfl, (hJ.to3 (hd 18 rfl) _).1⟩
      · intro y W ls hl hJ hoff hf
        obtain rfl := hJ.w2 (hl 18 (by decide))
        have e3 : y.tmps.getD 3 undef = .slice (some ⟨q, 0, none⟩) (j + 1) cap := hf 19 _ rfl
        obtain ⟨ys, hys, ha⟩ := off_form hoff (mask := [false, false, false, true, false, false, false, false, false, false, false, true, true, true, true, true, true, true, true, true, true, true, true, true, true, true, true, true, true, true, false]) (by kernel_rfl)
        rw [hys] at e3
        subst ha
        simp only [fillFrom, Nat.zero_add, Nat.reduceAdd] at *
        rw [e3]
        clear e3 hys hoff hf hl hJ
        rename_i hKK
        refine hKK _ _ ?_
        clear hKK
        go_wp2_with fail
        go_roundg (n - (j + 1))
        case measure => omega
        case rel => exact ⟨j + 1, some ⟨q, 0, none⟩, cap, rfl, by go_num, by omega, Nat.le_refl _, (by rw [HTK.out]; exact HO2.out), (HB2.out : Aside _)⟩
    · obtain rfl : j = n := by omega
      have hltz : ¬ (j : Int) < (j : Int) := by omega
      have ht : l.take j = l := List.take_of_length_le (by rw [HN.out]; exact Nat.le_refl _)
      have HT := Lib.hid ht
      clear ht
      go_wp2_with fail
      go_ret
      have := HO.out
      rw [HT.out] at this
      exact ⟨A3, j, c3, rfl, this, HB.out⟩
theorem cb_nil (l : List UInt8) : ¬ compareBytes l [] < 0 := by
  cases l with
  | nil => rw [cb_self]; omega
  | cons x l => simp [compareBytes]
theorem und_nil (P : List Cg) : undL P [] = P := by
  have h0 : lowN P [] = 0 := by
    unfold lowN
    cases P with
    | nil => rfl
    | cons x P =>
      have : lessT [] x = false := decide_eq_false (cb_nil (ky x))
      rw [List.takeWhile_cons_of_neg (by rw [this]; exact Bool.false_ne_true)]
      rfl
  unfold undL
  rw [h0, List.drop_zero]
  have hp : ∀ c : Cg, preB [] (ky c) = true := fun c => by simp [preB]
  have ht : ∀ Q : List Cg, Q.takeWhile (fun c => preB [] (ky c)) = Q := by
    intro Q
    induction Q with
    | nil => rfl
    | cons x Q ih => rw [List.takeWhile_cons_of_pos (p := fun c => preB [] (ky c)) (hp x), ih]
  exact ht P
/-- what pairs answers -/
def PairsPost (w : World) (l : List Cg) (e : Ending) (w' : World) : Prop := ∃ A n c, e = .returned (.slice A n c) ∧ w'.ownsRow w.heap.size 48 3 (.slice A n c) n (chV l) ∧ Below w.heap.size w w'

set_option maxRecDepth 100000 in
set_option maxHeartbeats 2000000 in
theorem pairs_any (w0 w : World) (sb cb g : Nat) (x : SS) (hx : SMem w0 w sb cb g x) (ha : Asc x.P) (hb : x.P.length * 40 ≤ 140737488355328) :
    Calls Try.prog 17 #[.pointer (some ⟨sb, 0, none⟩)] w (PairsPost w x.P) := by
  have hun := Under_any w0 w sb cb g x hx ha hb ⟨#[]⟩
  rw [show (⟨#[]⟩ : ByteArray).data.toList = [] from rfl, und_nil] at hun
  have HUN := Lib.hid hun
  clear hun hx ha
  generalize x.P = l at *
  go_enter Try.func17, Try.ntmps17
  go_wp2_with fail
  refine HUN.out.mono ?_
  rintro e1 w1 ⟨A, n, c, rfl, ho1, hb1⟩
  have hn : l.length = n := (own_hc ho1).1.1
  have H := Lib.hid (own_hc ho1).1
  have HN := Lib.hid hn
  have HB1 := Lib.hid hb1
  have hbn : n * 40 ≤ 140737488355328 := by rw [← hn]; exact hb
  clear ho1 hb1 hn HUN hb
  go_wp2_with fail
  go_loopg [3, 5] n (fun kx v3 v4 wr => ∃ (j : Nat) (A3 : Option Addr) (c3 : Nat), v3 = .slice A3 j c3 ∧ v4 = .int .i64 (j : Int) ∧ j ≤ n ∧ n - j ≤ kx ∧ Aside (wr.ownsRow w1.heap.size 48 3 (.slice A3 j c3) j (chV (l.take j))) ∧ Aside (Below w1.heap.size w1 wr))
  case atStart => exact ⟨0, none, 0, rfl, rfl, Nat.zero_le _, Nat.le_refl _, (World.ownsRow_nil _ _ _ _ : Aside _), (Below.refl _ _ : Aside _)⟩
  case round =>
    obtain ⟨j, A3, c3, rfl, rfl, hjn, hkx, HO, HB⟩ := hrel
    by_cases hlt : j < n
    · have hltz : (j : Int) < (n : Int) := by omega
      have pj : (0 : Int) ≤ (j : Int) := by omega
      have hjl : j < l.length := by rw [HN.out]; exact hlt
      obtain ⟨b, o, eA, hbl, e0, e1, e2⟩ := H.out.elem j hjl
      have htk : l.take (j + 1) = l.take j ++ [l[j]] := List.take_succ_eq_append_getElem hjl
      generalize l[j] = x at *
      obtain ⟨xk, xv, xg⟩ := x
      subst eA
      simp only at e0 e1 e2
      obtain ⟨V, hV⟩ : ∃ V, V = wr.drew := ⟨_, rfl⟩
      have hbV : Below wr.heap.size wr V := by rw [hV]; exact (Below.refl _ _).drew
      have hB : Below w1.heap.size w1 V := HB.out.trans (hbV.mono HB.out.size)
      have d0 := (hB.cell (p := ⟨b, o + j * 3, none⟩) hbl).trans e0
      have d1 := (hB.cell (p := ⟨b, o + j * 3 + 1, none⟩) hbl).trans e1
      have d2 := (hB.cell (p := ⟨b, o + j * 3 + 2, none⟩) hbl).trans e2
      have HOV := Lib.hid (own_belowG HO.out hbV)
      have HBV := Lib.hid hB
      have HV := Lib.hid hV
      have HTK := Lib.hid htk
      have hby : (j + 1) * 40 ≤ 140737488355328 := by omega
      clear e0 e1 e2 hV hbV hB htk
      obtain ⟨i0, hi0, hz0, hz1, hz2⟩ := info48'
      obtain ⟨q, cap, W2, hrn, ho2, hb2⟩ := ap_run (V := V) (x := ⟨xk, xv, xg⟩) (s := 31) i0 Try.underlying31 hi0 hz0 hz1 hz2 HOV.out hby HBV.out.size
      have HRN := Lib.hid hrn
      have HO2 := Lib.hid ho2
      have HB2 := Lib.hid (HBV.out.trans hb2)
      clear hrn ho2 hb2 hz0 hz1 hz2 hi0 HOV HBV
      go_wp2_with fail
      refine wp_region_stepsA (apF b o j n c q cap A3 c3 V.heap.size xk xv xg) (apJ V (V.alloc (.cells #[.string xk, .string xv, .bool xg] 48)) W2 (.slice A3 j c3)) (by kernel_rfl) (by kernel_rfl) ⟨fun _ => rfl, by rw [HV.out]; rfl⟩ ?_ ?_
      · refine ⟨?_, ?_, ?_, ?_, ?_, ?_, ?_, ?_, ?_, ?_, ?_, ?_, ?_, ?_, ?_, ?_, ?_, ?_, ?_, ?_, trivial⟩
        · intro y W ls hJ hi hcl hd hoff hf
          left
          refine ⟨rfl, ?_⟩
          have h18 : ls 18 = false := hcl.no hi rfl rfl
          have h19 : ls 19 = false := hcl.no h18 rfl rfl
          have e0 := hJ.1 h19
          go_simp
          exact ⟨_, rfl, rfl, hJ.pure (i := 0) (d := some 14) (by decide) (by decide) (by decide) (by decide) _⟩
        · intro y W ls hJ hi hcl hd hoff hf
          left
          refine ⟨rfl, ?_⟩
          have e0 : y.tmps.getD 4 undef = .slice (some ⟨b, o, none⟩) n c := hoff.slot 4 (no_dst (by kernel_rfl))
          go_simp
          exact ⟨_, rfl, rfl, hJ.pure (i := 1) (d := some 15) (by decide) (by decide) (by decide) (by decide) _⟩
        · intro y W ls hJ hi hcl hd hoff hf
          left
          refine ⟨rfl, ?_⟩
          have e0 : y.tmps.getD 5 undef = .int .i64 (j : Int) := hoff.slot 5 (no_dst (by kernel_rfl))
          go_simp
          exact ⟨_, rfl, rfl, hJ.pure (i := 2) (d := some 16) (by decide) (by decide) (by decide) (by decide) _⟩
        · intro y W ls hJ hi hcl hd hoff hf
          left
          refine ⟨rfl, ?_⟩
          have e0 : y.tmps.getD 15 undef = .slice (some ⟨b, o, none⟩) n c := hf 1 _ (hd 1 rfl) rfl
          have e1 : y.tmps.getD 16 undef = .int .i64 (j : Int) := hf 2 _ (hd 2 rfl) rfl
          go_simp
          exact ⟨_, rfl, rfl, hJ.pure (i := 3) (d := some 17) (by decide) (by decide) (by decide) (by decide) _⟩
        · intro y W ls hJ hi hcl hd hoff hf
          left
          refine ⟨rfl, ?_⟩
          have e0 : y.tmps.getD 17 undef = .pointer (some ⟨b, o + j * 3, none⟩) := hf 3 _ (hd 3 rfl) rfl
          go_simp
          exact ⟨_, rfl, rfl, hJ.pure (i := 4) (d := some 18) (by decide) (by decide) (by decide) (by decide) _⟩
        · intro y W ls hJ hi hcl hd hoff hf
          left
          refine ⟨rfl, ?_⟩
          have e0 : y.tmps.getD 18 undef = .pointer (some ⟨b, o + j * 3, none⟩) := hf 4 _ (hd 4 rfl) rfl
          have h16 : ls 16 = false := hcl.no hi rfl rfl
          have h17 : ls 17 = false := hcl.no h16 rfl rfl
          have h18 : ls 18 = false := hcl.no h17 rfl rfl
          obtain rfl := hJ.w0 h17 h18
          go_simp
          exact ⟨_, rfl, rfl, hJ.pure (i := 5) (d := some 19) (by decide) (by decide) (by decide) (by decide) _⟩
        · intro y W ls hJ hi hcl hd hoff hf
          left
          refine ⟨rfl, ?_⟩
          have e0 : y.tmps.getD 4 undef = .slice (some ⟨b, o, none⟩) n c := hoff.slot 4 (no_dst (by kernel_rfl))
          go_simp
          exact ⟨_, rfl, rfl, hJ.pure (i := 6) (d := some 20) (by decide) (by decide) (by decide) (by decide) _⟩
        · intro y W ls hJ hi hcl hd hoff hf
          left
          refine ⟨rfl, ?_⟩
          have e0 : y.tmps.getD 5 undef = .int .i64 (j : Int) := hoff.slot 5 (no_dst (by kernel_rfl))
          go_simp
          exact ⟨_, rfl, rfl, hJ.pure (i := 7) (d := some 21) (by decide) (by decide) (by decide) (by decide) _⟩
        · intro y W ls hJ hi hcl hd hoff hf
          left
          refine ⟨rfl, ?_⟩
          have e0 : y.tmps.getD 20 undef = .slice (some ⟨b, o, none⟩) n c := hf 6 _ (hd 6 rfl) rfl
          have e1 : y.tmps.getD 21 undef = .int .i64 (j : Int) := hf 7 _ (hd 7 rfl) rfl
          go_simp
          exact ⟨_, rfl, rfl, hJ.pure (i := 8) (d := some 22) (by decide) (by decide) (by decide) (by decide) _⟩
        · intro y W ls hJ hi hcl hd hoff hf
          left
          refine ⟨rfl, ?_⟩
          have e0 : y.tmps.getD 22 undef = .pointer (some ⟨b, o + j * 3, none⟩) := hf 8 _ (hd 8 rfl) rfl
          go_simp
          exact ⟨_, rfl, rfl, hJ.pure (i := 9) (d := some 23) (by decide) (by decide) (by decide) (by decide) _⟩
        · intro y W ls hJ hi hcl hd hoff hf
          left
          refine ⟨rfl, ?_⟩
          have e0 : y.tmps.getD 23 undef = .pointer (some ⟨b, o + j * 3 + 1, none⟩) := hf 9 _ (hd 9 rfl) rfl
          have h16 : ls 16 = false := hcl.no hi rfl rfl
          have h17 : ls 17 = false := hcl.no h16 rfl rfl
          have h18 : ls 18 = false := hcl.no h17 rfl rfl
          obtain rfl := hJ.w0 h17 h18
          go_simp
          exact ⟨_, rfl, rfl, hJ.pure (i := 10) (d := some 24) (by decide) (by decide) (by decide) (by decide) _⟩
        · intro y W ls hJ hi hcl hd hoff hf
          left
          refine ⟨rfl, ?_⟩
          have e0 : y.tmps.getD 4 undef = .slice (some ⟨b, o, none⟩) n c := hoff.slot 4 (no_dst (by kernel_rfl))
          go_simp
          exact ⟨_, rfl, rfl, hJ.pure (i := 11) (d := some 25) (by decide) (by decide) (by decide) (by decide) _⟩
        · intro y W ls hJ hi hcl hd hoff hf
          left
          refine ⟨rfl, ?_⟩
          have e0 : y.tmps.getD 5 undef = .int .i64 (j : Int) := hoff.slot 5 (no_dst (by kernel_rfl))
          go_simp
          exact ⟨_, rfl, rfl, hJ.pure (i := 12) (d := some 26) (by decide) (by decide) (by decide) (by decide) _⟩
        · intro y W ls hJ hi hcl hd hoff hf
          left
          refine ⟨rfl, ?_⟩
          have e0 : y.tmps.getD 25 undef = .slice (some ⟨b, o, none⟩) n c := hf 11 _ (hd 11 rfl) rfl
          have e1 : y.tmps.getD 26 undef = .int .i64 (j : Int) := hf 12 _ (hd 12 rfl) rfl
          go_simp
          exact ⟨_, rfl, rfl, hJ.pure (i := 13) (d := some 27) (by decide) (by decide) (by decide) (by decide) _⟩
        · intro y W ls hJ hi hcl hd hoff hf
          left
          refine ⟨rfl, ?_⟩
          have e0 : y.tmps.getD 27 undef = .pointer (some ⟨b, o + j * 3, none⟩) := hf 13 _ (hd 13 rfl) rfl
          go_simp
          exact ⟨_, rfl, rfl, hJ.pure (i := 14) (d := some 28) (by decide) (by decide) (by decide) (by decide) _⟩
        · intro y W ls hJ hi hcl hd hoff hf
          left
          refine ⟨rfl, ?_⟩
          have e0 : y.tmps.getD 28 undef = .pointer (some ⟨b, o + j * 3 + 2, none⟩) := hf 14 _ (hd 14 rfl) rfl
          have h16 : ls 16 = false := hcl.no hi rfl rfl
          have h17 : ls 17 = false := hcl.no h16 rfl rfl
          have h18 : ls 18 = false := hcl.no h17 rfl rfl
          obtain rfl := hJ.w0 h17 h18
          go_simp
          exact ⟨_, rfl, rfl, hJ.pure (i := 15) (d := some 29) (by decide) (by decide) (by decide) (by decide) _⟩
        · intro y W ls hJ hi hcl hd hoff hf
          left
          refine ⟨rfl, ?_⟩
          have e0 : y.tmps.getD 19 undef = .string xk := hf 5 _ (hd 5 rfl) rfl
          have e1 : y.tmps.getD 24 undef = .string xv := hf 10 _ (hd 10 rfl) rfl
          have e2 : y.tmps.getD 29 undef = .bool xg := hf 15 _ (hd 15 rfl) rfl
          rw [Array.getD_eq_getD_getElem?] at e0 e1 e2
          go_simp
          exact ⟨_, rfl, rfl, hJ.pure (i := 16) (d := some 30) (by decide) (by decide) (by decide) (by decide) _⟩
        · intro y W ls hJ hi hcl hd hoff hf
          left
          refine ⟨rfl, ?_⟩
          have e0 : y.tmps.getD 30 undef = .agg #[.string xk, .string xv, .bool xg] := hf 16 _ (hd 16 rfl) rfl
          rw [Array.getD_eq_getD_getElem?] at e0
          have h18 : ls 18 = false := hcl.no hi rfl rfl
          obtain rfl := hJ.w0 hi h18
          go_simp
          exact ⟨_, rfl, rfl, hJ.to1 (d := some 31) h18 (by decide) _⟩
        · intro y W ls hJ hi hcl hd hoff hf
          left
          refine ⟨rfl, ?_⟩
          have e0 : y.eval (.tmp 14) = .slice A3 j c3 := hf 0 _ (hd 0 rfl) rfl
          have e1 : y.eval (.tmp 31) = .slice (some ⟨V.heap.size, 0, none⟩) 1 1 := hf 17 _ (hd 17 rfl) rfl
          have hWW := hJ.w1 (hd 17 rfl) hi
          rw [hWW] at hJ ⊢
          refine wp_value (v := .slice (some ⟨q, 0, none⟩) (j + 1) cap) (w' := W2) ?_ ⟨_, rfl, rfl, hJ.to2 (d := some 32) (by decide) _⟩
          simp only [execOp, resolve, invoke, builtin, Sem.run_bind, Sem.run_pure, Result.andThen_ok, List.map_toArray, List.map_cons, List.map_nil, e0, e1, HRN.out]
          skip
        · intro y W ls hJ hi hcl hd hoff hf
          left
          refine ⟨rfl, ?_⟩
          have e0 : y.tmps.getD 32 undef = .slice (some ⟨q, 0, none⟩) (j + 1) cap := hf 18 _ (hd 18 rfl) rfl
          obtain rfl := hJ.w2 (hd 18 rfl)
          go_simp
          exact ⟨_, rfl, rfl, (hJ.to3 (hd 18 rfl) _).1⟩
      · intro y W ls hl hJ hoff hf
        obtain rfl := hJ.w2 (hl 18 (by decide))
        have e3 : y.tmps.getD 3 undef = .slice (some ⟨q, 0, none⟩) (j + 1) cap := hf 19 _ rfl
        obtain ⟨ys, hys, ha⟩ := off_form hoff (mask := [false, false, false, true, false, false, false, false, false, false, false, false, false, false, true, true, true, true, true, true, true, true, true, true, true, true, true, true, true, true, true, true, true, false]) (by kernel_rfl)
        rw [hys] at e3
        subst ha
        simp only [fillFrom, Nat.zero_add, Nat.reduceAdd] at *
        rw [e3]
        clear e3 hys hoff hf hl hJ
        rename_i hKK
        refine hKK _ _ ?_
        clear hKK
        go_wp2_with fail
        go_roundg (n - (j + 1))
        case measure => omega
        case rel => exact ⟨j + 1, some ⟨q, 0, none⟩, cap, rfl, by go_num, by omega, Nat.le_refl _, (by rw [HTK.out]; exact HO2.out), (HB2.out : Aside _)⟩
    · obtain rfl : j = n := by omega
      have hltz : ¬ (j : Int) < (j : Int) := by omega
      have ht : l.take j = l := List.take_of_length_le (by rw [HN.out]; exact Nat.le_refl _)
      have HT := Lib.hid ht
      clear ht
      go_wp2_with fail
      go_ret
      have := HO.out
      rw [HT.out] at this
      exact ⟨A3, j, c3, rfl, own_mono this HB1.out.size, HB1.out.trans (HB.out.mono HB1.out.size)⟩
end Go.Proofs.Ytbfhlleipeipbaa

/- What is proved: the contract of the document's Same. Conditions: those in each statement. -/
namespace Go.Proofs.Ytbfhlleipeipbaa
open Go.Shelf Go.RowKit Go.Lib Go.Sort

def eqC (x y : Cg) : Bool := (x.key.toList == y.key.toList) && ((x.val.toList == y.val.toList) && (x.gone == y.gone))
theorem bytes_same {a b : ByteArray} (h : a.toList = b.toList) : a = b := by
  rw [ByteArray.toList_eq, ByteArray.toList_eq] at h
  exact WideShapes.bytes_inj h
theorem eqC_iff (x y : Cg) : eqC x y = true ↔ x = y := by
  obtain ⟨a, b, c⟩ := x
  obtain ⟨a', b', c'⟩ := y
  unfold eqC
  simp only [Bool.and_eq_true, beq_iff_eq]
  constructor
  · rintro ⟨h1, h2, h3⟩
    rw [bytes_same h1, bytes_same h2, h3]
  · intro h
    injection h with h1 h2 h3
    rw [h1, h2, h3]
    exact ⟨rfl, rfl, rfl⟩
def sameL : List Cg → List Cg → Bool
  | [], [] => true
  | x :: a, y :: b => eqC x y && sameL a b
  | _, _ => false
theorem sameL_iff : ∀ a b : List Cg, sameL a b = true ↔ a = b
  | [], [] => by simp [sameL]
  | [], y :: b => by simp [sameL]
  | x :: a, [] => by simp [sameL]
  | x :: a, y :: b => by
    unfold sameL
    rw [Bool.and_eq_true, eqC_iff, sameL_iff a b]
    simp
theorem sameL_len : ∀ a b : List Cg, a.length ≠ b.length → sameL a b = false := fun a b h => by
  cases hs : sameL a b with
  | false => rfl
  | true => exact absurd (congrArg List.length ((sameL_iff a b).1 hs)) h
theorem sameL_self (a : List Cg) : sameL a a = true := (sameL_iff a a).2 rfl
theorem eqC_run (W : World) (x y : Cg) : (Op.equalIn 10000 48 (.agg #[.string x.key, .string x.val, .bool x.gone]) (.agg #[.string y.key, .string y.val, .bool y.gone])).run Try.prog W = .ok (eqC x y) W := by
  unfold eqC
  simp [go_sem]
  by_cases h1 : x.key.toList = y.key.toList
  · by_cases h2 : x.val.toList = y.val.toList
    · by_cases h3 : x.gone = y.gone
      · simp [h1, h2, h3]
      · simp [h1, h2, h3]
    · simp [h1, h2]
  · simp [h1]
theorem sameL_cut {a b : List Cg} {j : Nat} (h : j < a.length) (h' : j < b.length) : sameL (a.drop j) (b.drop j) = (eqC a[j] b[j] && sameL (a.drop (j + 1)) (b.drop (j + 1))) := by
  rw [List.drop_eq_getElem_cons h, List.drop_eq_getElem_cons h']
  rfl
def smV (b1 o1 b2 o2 n c d j : Nat) (xk xv : ByteArray) (xg : Bool) (yk yv : ByteArray) (yg : Bool) : Nat → Value
  | 0 => .slice (some ⟨b1, o1, none⟩) n c
  | 1 => .int .i64 (j : Int)
  | 2 => .pointer (some ⟨b1, o1 + j * 3, none⟩)
  | 3 => .agg #[.string xk, .string xv, .bool xg]
  | 4 => .slice (some ⟨b2, o2, none⟩) n d
  | 5 => .int .i64 (j : Int)
  | 6 => .pointer (some ⟨b2, o2 + j * 3, none⟩)
  | 7 => .agg #[.string yk, .string yv, .bool yg]
  | 8 => .bool (!eqC ⟨xk, xv, xg⟩ ⟨yk, yv, yg⟩)
  | _ => undef
set_option maxRecDepth 100000 in
set_option maxHeartbeats 2000000 in
theorem Same_any (w : World) (A B : Option Addr) (n c m d : Nat) (a b : List Cg) (ha : HC w A n c a) (hb : HC w B m d b) (hn : n * 40 ≤ 140737488355328) :
    Calls Try.prog 16 #[.slice A n c, .slice B m d] w fun e w' => e = .returned (.bool (sameL a b)) ∧ Below w.heap.size w w' := by
  have HA := Lib.hid ha
  have HB := Lib.hid hb
  have HN := Lib.hid ha.1
  have HM := Lib.hid hb.1
  clear ha hb
  go_enter Try.func16, Try.ntmps16
  by_cases hnm : n = m
  · subst hnm
    go_wp2_with fail
    go_loopg [5] n (fun kx v5 wr => ∃ (j : Nat), v5 = .int .i64 (j : Int) ∧ j ≤ n ∧ n - j ≤ kx ∧ Aside (sameL a b = sameL (a.drop j) (b.drop j)) ∧ Aside (Below w.heap.size w wr))
    case atStart => exact ⟨0, rfl, Nat.zero_le _, Nat.le_refl _, (rfl : Aside _), (Below.refl _ _ : Aside _)⟩
    case round =>
      obtain ⟨j, rfl, hjn, hkx, HE, HBW⟩ := hrel
      by_cases hlt : j < n
      · have hltz : (j : Int) < (n : Int) := by omega
        have pj : (0 : Int) ≤ (j : Int) := by omega
        have hja : j < a.length := by rw [HN.out]; exact hlt
        have hjb : j < b.length := by rw [HM.out]; exact hlt
        obtain ⟨b1, o1, eA, hbl, e0, e1, e2⟩ := HA.out.elem j hja
        obtain ⟨b2, o2, eB, hbl2, f0, f1, f2⟩ := HB.out.elem j hjb
        have hct := sameL_cut hja hjb
        generalize a[j] = x at *
        generalize b[j] = y at *
        obtain ⟨xk, xv, xg⟩ := x
        obtain ⟨yk, yv, yg⟩ := y
        subst eA
        subst eB
        simp only at e0 e1 e2 f0 f1 f2
        obtain ⟨V, hV⟩ : ∃ V, V = wr.drew := ⟨_, rfl⟩
        have hbV : Below wr.heap.size wr V := by rw [hV]; exact (Below.refl _ _).drew
        have hB : Below w.heap.size w V := HBW.out.trans (hbV.mono HBW.out.size)
        have d0 := (hB.cell (p := ⟨b1, o1 + j * 3, none⟩) hbl).trans e0
        have d1 := (hB.cell (p := ⟨b1, o1 + j * 3 + 1, none⟩) hbl).trans e1
        have d2 := (hB.cell (p := ⟨b1, o1 + j * 3 + 2, none⟩) hbl).trans e2
        have g0 := (hB.cell (p := ⟨b2, o2 + j * 3, none⟩) hbl2).trans f0
        have g1 := (hB.cell (p := ⟨b2, o2 + j * 3 + 1, none⟩) hbl2).trans f1
        have g2 := (hB.cell (p := ⟨b2, o2 + j * 3 + 2, none⟩) hbl2).trans f2
        have HCT := Lib.hid hct
        have HBV := Lib.hid hB
        have HV := Lib.hid hV
        clear e0 e1 e2 f0 f1 f2 hct hV hbV hB
        go_wp2_with fail
        refine wp_region_chain (smV b1 o1 b2 o2 n c d j xk xv xg yk yv yg) (fun _ => V) (by kernel_rfl) (by kernel_rfl) HV.out ?_ ?_
        · refine ⟨?_, ?_, ?_, ?_, ?_, ?_, ?_, ?_, ?_, trivial⟩
          · intro y ls hcl hi hd hoff hf
            left
            refine ⟨rfl, ?_⟩
            have e0 : y.tmps.getD 0 undef = .slice (some ⟨b1, o1, none⟩) n c := hoff.slot 0 (no_dst (by kernel_rfl))
            go_simp
            exact rfl
          · intro y ls hcl hi hd hoff hf
            left
            refine ⟨rfl, ?_⟩
            have e0 : y.tmps.getD 5 undef = .int .i64 (j : Int) := hoff.slot 5 (no_dst (by kernel_rfl))
            go_simp
            exact rfl
          · intro y ls hcl hi hd hoff hf
            left
            refine ⟨rfl, ?_⟩
            have e0 : y.tmps.getD 17 undef = .slice (some ⟨b1, o1, none⟩) n c := hf 0 _ (hd 0 rfl) rfl
            have e1 : y.tmps.getD 18 undef = .int .i64 (j : Int) := hf 1 _ (hd 1 rfl) rfl
            go_simp
            exact rfl
          · intro y ls hcl hi hd hoff hf
            left
            refine ⟨rfl, ?_⟩
            have e0 : y.tmps.getD 19 undef = .pointer (some ⟨b1, o1 + j * 3, none⟩) := hf 2 _ (hd 2 rfl) rfl
            go_simp
            exact rfl
          · intro y ls hcl hi hd hoff hf
            left
            refine ⟨rfl, ?_⟩
            have e0 : y.tmps.getD 1 undef = .slice (some ⟨b2, o2, none⟩) n d := hoff.slot 1 (no_dst (by kernel_rfl))
            go_simp
            exact rfl
          · intro y ls hcl hi hd hoff hf
            left
            refine ⟨rfl, ?_⟩
            have e0 : y.tmps.getD 5 undef = .int .i64 (j : Int) := hoff.slot 5 (no_dst (by kernel_rfl))
            go_simp
            exact rfl
          · intro y ls hcl hi hd hoff hf
            left
            refine ⟨rfl, ?_⟩
            have e0 : y.tmps.getD 21 undef = .slice (some ⟨b2, o2, none⟩) n d := hf 4 _ (hd 4 rfl) rfl
            have e1 : y.tmps.getD 22 undef = .int .i64 (j : Int) := hf 5 _ (hd 5 rfl) rfl
            go_simp
            exact rfl
          · intro y ls hcl hi hd hoff hf
            left
            refine ⟨rfl, ?_⟩
            have e0 : y.tmps.getD 23 undef = .pointer (some ⟨b2, o2 + j * 3, none⟩) := hf 6 _ (hd 6 rfl) rfl
            go_simp
            exact rfl
          · intro y ls hcl hi hd hoff hf
            left
            refine ⟨rfl, ?_⟩
            have e0 : y.tmps.getD 20 undef = .agg #[.string xk, .string xv, .bool xg] := hf 3 _ (hd 3 rfl) rfl
            have e1 : y.tmps.getD 24 undef = .agg #[.string yk, .string yv, .bool yg] := hf 7 _ (hd 7 rfl) rfl
            rw [Array.getD_eq_getD_getElem?] at e0 e1
            by_cases h1 : xk.toList = yk.toList
            · by_cases h2 : xv.toList = yv.toList
              · by_cases h3 : xg = yg
                · skip
                  have hv : smV b1 o1 b2 o2 n c d j xk xv xg yk yv yg 8 = .bool false := by simp [smV, eqC, h1, h2, h3]
                  go_simp
                  rw [h3] at hv
                  rw [hv]
                · skip
                  have hv : smV b1 o1 b2 o2 n c d j xk xv xg yk yv yg 8 = .bool true := by simp [smV, eqC, h1, h2, h3]
                  go_simp
              · skip
                have hv : smV b1 o1 b2 o2 n c d j xk xv xg yk yv yg 8 = .bool true := by simp [smV, eqC, h1, h2]
                go_simp
            · skip
              have hv : smV b1 o1 b2 o2 n c d j xk xv xg yk yv yg 8 = .bool true := by simp [smV, eqC, h1]
              go_simp
        · intro y ls hl hoff hf
          have e3 : y.tmps.getD 25 undef = .bool (!eqC ⟨xk, xv, xg⟩ ⟨yk, yv, yg⟩) := hf 8 _ rfl
          obtain ⟨ys, hys, ha⟩ := off_form hoff (mask := [false, false, false, false, false, false, false, false, false, false, false, false, false, false, false, false, false, true, true, true, true, true, true, true, true, true]) (by kernel_rfl)
          rw [hys] at e3
          subst ha
          simp only [fillFrom, Nat.zero_add, Nat.reduceAdd] at *
          rw [e3]
          clear e3 hys hoff hf hl
          rename_i hKK
          refine hKK _ _ ?_
          clear hKK
          cases hq : eqC ⟨xk, xv, xg⟩ ⟨yk, yv, yg⟩ with
          | true =>
            go_wp2_with fail
            go_roundg (n - (j + 1))
            case measure => omega
            case rel => exact ⟨j + 1, by go_num, by omega, Nat.le_refl _, (HE.out.trans (HCT.out.trans (by rw [hq, Bool.true_and])) : Aside _), (HBV.out : Aside _)⟩
          | false =>
            go_wp2_with fail
            go_ret
            exact ⟨by rw [HE.out, HCT.out, hq, Bool.false_and]; rfl, HBV.out⟩
      · obtain rfl : j = n := by omega
        have hltz : ¬ (j : Int) < (j : Int) := by omega
        have ht : sameL a b = true := by
          rw [HE.out, List.drop_of_length_le (by rw [HN.out]; exact Nat.le_refl _), List.drop_of_length_le (by rw [HM.out]; exact Nat.le_refl _)]
          rfl
        have HT := Lib.hid ht
        clear ht
        go_wp2_with fail
        go_ret
        exact ⟨by rw [HT.out]; rfl, HBW.out⟩
  · have hnz : (n : Int) ≠ (m : Int) := by omega
    have ht : sameL a b = false := sameL_len a b (by rw [HN.out, HM.out]; exact hnm)
    have HT := Lib.hid ht
    clear ht
    go_wp2_with fail
    go_ret
    exact ⟨by rw [HT.out]; rfl, Below.refl _ _⟩
end Go.Proofs.Ytbfhlleipeipbaa

/- What is proved: the contract of the document's Do: the pairs behind a change. Conditions: those in each statement. -/
namespace Go.Proofs.Ytbfhlleipeipbaa
open Go.Shelf Go.RowKit Go.Lib Go.Sort

theorem unwanted_of {ops : Array Oper} {o : Oper} {a : Act} {j : Nat} {p : Oper} {d : Tmp} (hg : o.guard = some (j, true)) (hp : ops[j]? = some p) (hd : p.dst = some d) (h : a.tmps.getD d undef = .bool false) : Region.wanted o (yielded ops a.tmps) = false := by
  have h' : a.tmps[d]? = some (.bool false) := by
    cases hx : a.tmps[d]? with
    | none => simp [hx, undef] at h
    | some x => simp [hx] at h; rw [h]
  simp [Region.wanted, hg, yielded, hp, hd, h']
def d7V (b1 o1 n c j g : Nat) (xk ck : ByteArray) : Nat → Value
  | 0 => .slice (some ⟨b1, o1, none⟩) n c
  | 1 => .int .i64 (j : Int)
  | 2 => .pointer (some ⟨b1, o1 + j * 3, none⟩)
  | 3 => .pointer (some ⟨b1, o1 + j * 3, none⟩)
  | 4 => .string xk
  | 5 => .pointer (some ⟨g, 0, none⟩)
  | 6 => .string ck
  | 7 => .bool (xk.toList == ck.toList)
  | _ => undef
def d8V (b1 o1 n c j g : Nat) (xk ck : ByteArray) : Nat → Value
  | 0 => .bool false
  | 1 => .bool true
  | 2 => .bool true
  | 3 => .pointer (some ⟨g, 0, none⟩)
  | 4 => .string ck
  | 5 => .slice (some ⟨b1, o1, none⟩) n c
  | 6 => .int .i64 (j : Int)
  | 7 => .pointer (some ⟨b1, o1 + j * 3, none⟩)
  | 8 => .pointer (some ⟨b1, o1 + j * 3, none⟩)
  | 9 => .string xk
  | 10 => .bool (Op.bytesLess ck.toList xk.toList)
  | 11 => .bool (Op.bytesLess ck.toList xk.toList)
  | _ => undef
def d8L : Nat → Value
  | 0 => .bool true
  | 1 => .bool false
  | 2 => .bool false
  | 11 => .bool false
  | _ => undef
theorem doGo_cons (c : Cg) (laid : Bool) (x : Cg) (l : List Cg) : doGo c laid (x :: l) = if ky x == ky c then doGo c laid l else if !laid && klt c x then c :: x :: doGo c true l else x :: doGo c laid l := rfl
theorem less_cb : ∀ a b : List UInt8, Op.bytesLess a b = decide (compareBytes a b < 0)
  | [], [] => by simp [Op.bytesLess, compareBytes]
  | _ :: _, [] => by simp [Op.bytesLess, compareBytes]
  | [], _ :: _ => by simp [Op.bytesLess, compareBytes]
  | a :: x, b :: y => by
    unfold Op.bytesLess compareBytes
    by_cases h1 : a < b
    · simp [h1]
    · by_cases h2 : b < a
      · have hne : a ≠ b := fun e => by subst e; exact h1 h2
        simp [h1, h2, hne]
      · have e : a = b := UInt8.le_antisymm (UInt8.not_lt.1 h2) (UInt8.not_lt.1 h1)
        subst e
        simp [h1, less_cb x y]
theorem ky_less {xk ck : ByteArray} (xv cv : ByteArray) (xg cg : Bool) : klt ⟨ck, cv, cg⟩ ⟨xk, xv, xg⟩ = Op.bytesLess ck.toList xk.toList := by rw [less_cb, ByteArray.toList_eq, ByteArray.toList_eq]; rfl
theorem by_one {n j m : Nat} (hb : (n + 1) * 40 ≤ 140737488355328) (hlt : j < n) (h : m ≤ j + 1) : (m + 1) * 40 ≤ 140737488355328 := Nat.le_trans (Nat.mul_le_mul_right 40 (by omega)) hb
theorem by_two {n j m : Nat} (hb : (n + 1) * 40 ≤ 140737488355328) (hlt : j < n) (h : m ≤ j) : (m + 1 + 1) * 40 ≤ 140737488355328 := Nat.le_trans (Nat.mul_le_mul_right 40 (by omega)) hb
theorem by_end {n m : Nat} (hb : (n + 1) * 40 ≤ 140737488355328) (h : m ≤ n) : (m + 1) * 40 ≤ 140737488355328 := Nat.le_trans (Nat.mul_le_mul_right 40 (by omega)) hb
theorem ky_same {xk ck : ByteArray} (xv cv : ByteArray) (xg cg : Bool) : (xk.toList == ck.toList) = (ky ⟨xk, xv, xg⟩ == ky ⟨ck, cv, cg⟩) := by rw [ByteArray.toList_eq, ByteArray.toList_eq]; rfl
set_option maxRecDepth 100000 in
set_option maxHeartbeats 4000000 in
theorem Do_any (A : Option Addr) (n c : Nat) (l : List Cg) (x : Cg) (w : World) (h : HC w A n c l) (hb : (n + 1) * 40 ≤ 140737488355328) :
    Calls Try.prog 35 #[.slice A n c, .agg #[.string x.key, .string x.val, .bool x.gone]] w (PairsPost w (doC l x)) := by
  have HN := Lib.hid h.1
  have H := Lib.hid h
  clear h
  obtain ⟨ck, cv, cg⟩ := x
  simp only
  go_enter Try.func35, Try.ntmps35
  go_wp2_with fail
  obtain ⟨w1, hw1⟩ : ∃ w1, w1 = w.alloc (.cells #[.string ck, .string cv, .bool false] 48) := ⟨_, rfl⟩
  obtain ⟨g, hg⟩ : ∃ g, g = w.heap.size := ⟨_, rfl⟩
  have hb1 : Below w.heap.size w w1 := by rw [hw1]; exact (Below.refl _ _).alloc (Nat.le_refl _) _
  have hgl : g < w1.heap.size := by rw [hw1, hg]; simp
  have c0 : w1.cell? ⟨g, 0, none⟩ = some (.string ck) := by rw [hw1, hg]; simp [go_sem]
  have c1 : w1.cell? ⟨g, 1, none⟩ = some (.string cv) := by rw [hw1, hg]; simp [go_sem]
  have c2 : w1.cell? ⟨g, 2, none⟩ = some (.bool false) := by rw [hw1, hg]; simp [go_sem]
  rw [← hw1, ← hg]
  have H1 := Lib.hid (H.out.below hb1)
  have HB1 := Lib.hid hb1
  have C0 := Lib.hid c0
  have C1 := Lib.hid c1
  have C2 := Lib.hid c2
  clear hw1 hg hb1 c0 c1 c2 H
  obtain ⟨D, hD⟩ : ∃ D, D = doC l ⟨ck, cv, cg⟩ := ⟨_, rfl⟩
  have HD := Lib.hid (show doGo ⟨ck, cv, false⟩ cg l = D from hD.symm)
  have HDC := Lib.hid hD
  clear hD
  go_loopg [5, 6, 7] n (fun kx v5 v6 v7 wr => ∃ (j : Nat) (A5 : Option Addr) (n5 c5 : Nat) (laid : Bool) (M : List Cg), v5 = .slice A5 n5 c5 ∧ v6 = .bool laid ∧ v7 = .int .i64 (j : Int) ∧ j ≤ n ∧ n - j ≤ kx ∧ n5 ≤ j + 1 ∧ (laid = false → n5 ≤ j) ∧ Aside (wr.ownsRow w1.heap.size 48 3 (.slice A5 n5 c5) n5 (chV M)) ∧ Aside (Below w1.heap.size w1 wr) ∧ Aside (M ++ doGo ⟨ck, cv, false⟩ laid (l.drop j) = D))
  case atStart => exact ⟨0, none, 0, 0, cg, [], rfl, rfl, rfl, Nat.zero_le _, Nat.le_refl _, Nat.zero_le _, fun _ => Nat.le_refl _, (World.ownsRow_nil _ _ _ _ : Aside _), (Below.refl _ _ : Aside _), (HD.out : Aside _)⟩
  case round =>
    obtain ⟨j, A5, n5, c5, laid, M, rfl, rfl, rfl, hjn, hkx, hn5, hl5, HO, HB, HE⟩ := hrel
    by_cases hlt : j < n
    · have hltz : (j : Int) < (n : Int) := by omega
      have pj : (0 : Int) ≤ (j : Int) := by omega
      have hjl : j < l.length := by rw [HN.out]; exact hlt
      obtain ⟨b1, o1, eA, hbl, e0, e1, e2⟩ := H1.out.elem j hjl
      have hE := HE.out
      rw [List.drop_eq_getElem_cons hjl, doGo_cons] at hE
      generalize l[j] = x at *
      obtain ⟨xk, xv, xg⟩ := x
      rw [← ky_same xv cv xg false] at hE
      subst eA
      simp only at e0 e1 e2
      obtain ⟨V, hV⟩ : ∃ V, V = wr.drew := ⟨_, rfl⟩
      have hbV : Below wr.heap.size wr V := by rw [hV]; exact (Below.refl _ _).drew
      have hB : Below w1.heap.size w1 V := HB.out.trans (hbV.mono HB.out.size)
      have HOV := Lib.hid (own_belowG HO.out hbV)
      have d0 := (hB.cell (p := ⟨b1, o1 + j * 3, none⟩) hbl).trans e0
      have d3 := (hB.cell (p := ⟨g, 0, none⟩) hgl).trans C0.out
      have HBV := Lib.hid hB
      have HV := Lib.hid hV
      have HE' := Lib.hid hE
      have X0 := Lib.hid e0
      have X1 := Lib.hid e1
      have X2 := Lib.hid e2
      clear e0 e1 e2 hV hbV hB hE HE HO HB
      go_wp2_with fail
      refine wp_region_chain (d7V b1 o1 n c j g xk ck) (fun _ => V) (by kernel_rfl) (by kernel_rfl) HV.out ?_ ?_
      · refine ⟨?_, ?_, ?_, ?_, ?_, ?_, ?_, ?_, trivial⟩
        · intro y ls hcl hi hd hoff hf
          left
          refine ⟨rfl, ?_⟩
          have e0 : y.tmps.getD 0 undef = .slice (some ⟨b1, o1, none⟩) n c := hoff.slot 0 (no_dst (by kernel_rfl))
          go_simp
          exact rfl
        · intro y ls hcl hi hd hoff hf
          left
          refine ⟨rfl, ?_⟩
          have e0 : y.tmps.getD 7 undef = .int .i64 (j : Int) := hoff.slot 7 (no_dst (by kernel_rfl))
          go_simp
          exact rfl
        · intro y ls hcl hi hd hoff hf
          left
          refine ⟨rfl, ?_⟩
          have e0 : y.tmps.getD 17 undef = .slice (some ⟨b1, o1, none⟩) n c := hf 0 _ (hd 0 rfl) rfl
          have e1 : y.tmps.getD 18 undef = .int .i64 (j : Int) := hf 1 _ (hd 1 rfl) rfl
          go_simp
          exact rfl
        · intro y ls hcl hi hd hoff hf
          left
          refine ⟨rfl, ?_⟩
          have e0 : y.tmps.getD 19 undef = .pointer (some ⟨b1, o1 + j * 3, none⟩) := hf 2 _ (hd 2 rfl) rfl
          go_simp
          exact rfl
        · intro y ls hcl hi hd hoff hf
          left
          refine ⟨rfl, ?_⟩
          have e0 : y.tmps.getD 20 undef = .pointer (some ⟨b1, o1 + j * 3, none⟩) := hf 3 _ (hd 3 rfl) rfl
          go_simp
          exact rfl
        · intro y ls hcl hi hd hoff hf
          left
          refine ⟨rfl, ?_⟩
          have e0 : y.tmps.getD 3 undef = .pointer (some ⟨g, 0, none⟩) := hoff.slot 3 (no_dst (by kernel_rfl))
          go_simp
          exact rfl
        · intro y ls hcl hi hd hoff hf
          left
          refine ⟨rfl, ?_⟩
          have e0 : y.tmps.getD 22 undef = .pointer (some ⟨g, 0, none⟩) := hf 5 _ (hd 5 rfl) rfl
          go_simp
          exact rfl
        · intro y ls hcl hi hd hoff hf
          left
          refine ⟨rfl, ?_⟩
          have e0 : y.tmps.getD 21 undef = .string xk := hf 4 _ (hd 4 rfl) rfl
          have e1 : y.tmps.getD 23 undef = .string ck := hf 6 _ (hd 6 rfl) rfl
          go_simp
          exact rfl
      · intro y ls hl hoff hf
        have e3 : y.tmps.getD 24 undef = .bool (xk.toList == ck.toList) := hf 7 _ rfl
        obtain ⟨ys, hys, ha⟩ := off_form hoff (mask := [false, false, false, false, false, false, false, false, false, false, false, false, false, false, false, false, false, true, true, true, true, true, true, true, true, false, false, false, false, false, false, false, false, false, false, false, false, false, false, false, false, false, false, false, false, false, false, false, false, false, false, false, false, false, false]) (by kernel_rfl)
        rw [hys] at e3
        subst ha
        simp only [fillFrom, Nat.zero_add, Nat.reduceAdd] at *
        rw [e3]
        clear e3 hys hoff hf hl
        rename_i hKK
        refine hKK _ _ ?_
        clear hKK
        cases hq : (xk.toList == ck.toList) with
        | true =>
          have hE := HE'.out
          rw [hq, if_pos rfl] at hE
          have HE2 := Lib.hid hE
          clear hE
          go_wp2_with fail
          go_roundg (n - (j + 1))
          case measure => omega
          case rel => exact ⟨j + 1, A5, n5, c5, laid, M, rfl, rfl, by go_num, by omega, Nat.le_refl _, by omega, fun e => by have := hl5 e; omega, (HOV.out : Aside _), (HBV.out : Aside _), (HE2.out : Aside _)⟩
        | false =>
          have hE := HE'.out
          rw [hq, if_neg Bool.false_ne_true] at hE
          obtain ⟨U, hU⟩ : ∃ U, U = V.drew := ⟨_, rfl⟩
          have hbU : Below V.heap.size V U := by rw [hU]; exact (Below.refl _ _).drew
          have hB : Below w1.heap.size w1 U := HBV.out.trans (hbU.mono HBV.out.size)
          have HOU := Lib.hid (own_belowG HOV.out hbU)
          have f0 := (hB.cell (p := ⟨b1, o1 + j * 3, none⟩) hbl).trans X0.out
          have f1 := (hB.cell (p := ⟨b1, o1 + j * 3 + 1, none⟩) hbl).trans X1.out
          have f2 := (hB.cell (p := ⟨b1, o1 + j * 3 + 2, none⟩) hbl).trans X2.out
          have k0 := (hB.cell (p := ⟨g, 0, none⟩) hgl).trans C0.out
          have k1 := (hB.cell (p := ⟨g, 1, none⟩) hgl).trans C1.out
          have k2 := (hB.cell (p := ⟨g, 2, none⟩) hgl).trans C2.out
          have HBU := Lib.hid hB
          have HU := Lib.hid hU
          clear hU hbU hB HOV HBV HV d0 d3
          cases laid with
          | true =>
            simp only [Bool.not_true, Bool.false_and, Bool.false_eq_true, if_false] at hE
            have HE2 := Lib.hid hE
            clear hE
            go_wp2_with fail
            refine wp_region_chain d8L (fun _ => U) (by kernel_rfl) (by kernel_rfl) HU.out ?_ ?_
            · refine ⟨?_, ?_, ?_, ?_, ?_, ?_, ?_, ?_, ?_, ?_, ?_, ?_, trivial⟩
              · intro y ls hcl hi hd hoff hf
                left
                refine ⟨rfl, ?_⟩
                have e0 : y.tmps.getD 6 undef = .bool true := hoff.slot 6 (no_dst (by kernel_rfl))
                go_simp
                exact rfl
              · intro y ls hcl hi hd hoff hf
                left
                refine ⟨rfl, ?_⟩
                have e0 : y.tmps.getD 25 undef = .bool true := hf 0 _ (hd 0 rfl) rfl
                go_simp
                exact rfl
              · intro y ls hcl hi hd hoff hf
                left
                refine ⟨rfl, ?_⟩
                have e0 : y.tmps.getD 26 undef = .bool false := hf 1 _ (hd 1 rfl) rfl
                go_simp
                exact rfl
              · intro y ls hcl hi hd hoff hf
                right
                exact ⟨unwanted_of rfl rfl rfl (hf 2 _ (hd 2 rfl) rfl), rfl, rfl⟩
              · intro y ls hcl hi hd hoff hf
                right
                exact ⟨unwanted_of rfl rfl rfl (hf 2 _ (hd 2 rfl) rfl), rfl, rfl⟩
              · intro y ls hcl hi hd hoff hf
                right
                exact ⟨unwanted_of rfl rfl rfl (hf 2 _ (hd 2 rfl) rfl), rfl, rfl⟩
              · intro y ls hcl hi hd hoff hf
                right
                exact ⟨unwanted_of rfl rfl rfl (hf 2 _ (hd 2 rfl) rfl), rfl, rfl⟩
              · intro y ls hcl hi hd hoff hf
                right
                exact ⟨unwanted_of rfl rfl rfl (hf 2 _ (hd 2 rfl) rfl), rfl, rfl⟩
              · intro y ls hcl hi hd hoff hf
                right
                exact ⟨unwanted_of rfl rfl rfl (hf 2 _ (hd 2 rfl) rfl), rfl, rfl⟩
              · intro y ls hcl hi hd hoff hf
                right
                exact ⟨unwanted_of rfl rfl rfl (hf 2 _ (hd 2 rfl) rfl), rfl, rfl⟩
              · intro y ls hcl hi hd hoff hf
                right
                exact ⟨unwanted_of rfl rfl rfl (hf 2 _ (hd 2 rfl) rfl), rfl, rfl⟩
              · intro y ls hcl hi hd hoff hf
                left
                refine ⟨rfl, ?_⟩
                have e0 : y.tmps.getD 27 undef = .bool false := hf 2 _ (hd 2 rfl) rfl
                go_simp
                exact rfl
            · intro y ls hl hoff hf
              have e3 : y.tmps.getD 36 undef = .bool false := hf 11 _ rfl
              obtain ⟨zs, hzs, ha⟩ := off_form hoff (mask := [false, false, false, false, false, false, false, false, false, false, false, false, false, false, false, false, false, false, false, false, false, false, false, false, false, true, true, true, true, true, true, true, true, true, true, true, true, false, false, false, false, false, false, false, false, false, false, false, false, false, false, false, false, false, false]) (by kernel_rfl)
              rw [hzs] at e3
              subst ha
              simp only [fillFrom, Nat.zero_add, Nat.reduceAdd] at *
              rw [e3]
              clear e3 hzs hoff hf hl
              rename_i hKK
              refine hKK _ _ ?_
              clear hKK
              have HP7 := Lib.hid (HOU.out.alloc (.cells #[.string xk, .string xv, .bool xg] 48))
              have HW7 := Lib.hid (HC.newG U [⟨xk, xv, xg⟩] #[.string xk, .string xv, .bool xg] rfl 48 U.heap.size 1 rfl rfl)
              have OB7 := Lib.hid HOU.out.lt
              have hby7 := by_one hb hlt hn5
              go_wp2_with (at_builtin; (with_reducible refine wpList_append_hr rfl (.tmp 41) (.tmp 46) rfl w1.heap.size (.slice A5 (n5) c5) (n5) (M) rfl HP7.out (some ⟨U.heap.size, 0, none⟩) 1 1 [⟨xk, xv, xg⟩] rfl HW7.out (fun e => by cases e) hby7 (by have := HBU.out.size; simp; omega) ?_); intro A7 c7 w7 hown7 hgrow7; have HO7 := Lib.hid hown7; have B7 := Lib.hid ((HBU.out.alloc HBU.out.size _).grown hgrow7 (by have := HBU.out.size; simp; omega) (fun q hq => (OB7.out q hq).1)); clear hown7 hgrow7)
              go_roundg (n - (j + 1))
              case measure => omega
              case rel => exact ⟨j + 1, A7, n5 + 1, c7, true, M ++ [(⟨xk, xv, xg⟩ : Cg)], rfl, rfl, by go_num, by omega, Nat.le_refl _, by omega, (fun e => by cases e), (HO7.out : Aside _), (B7.out : Aside _), (by have := HE2.out; rw [List.append_assoc]; exact this : Aside _)⟩
          | false =>
            have hl6 := hl5 rfl
            clear hl5
            go_wp2_with fail
            refine wp_region_chain (d8V b1 o1 n c j g xk ck) (fun _ => U) (by kernel_rfl) (by kernel_rfl) HU.out ?_ ?_
            · refine ⟨?_, ?_, ?_, ?_, ?_, ?_, ?_, ?_, ?_, ?_, ?_, ?_, trivial⟩
              · intro y ls hcl hi hd hoff hf
                left
                refine ⟨rfl, ?_⟩
                have e0 : y.tmps.getD 6 undef = .bool false := hoff.slot 6 (no_dst (by kernel_rfl))
                go_simp
                exact rfl
              · intro y ls hcl hi hd hoff hf
                left
                refine ⟨rfl, ?_⟩
                have e0 : y.tmps.getD 25 undef = .bool false := hf 0 _ (hd 0 rfl) rfl
                go_simp
                exact rfl
              · intro y ls hcl hi hd hoff hf
                left
                refine ⟨rfl, ?_⟩
                have e0 : y.tmps.getD 26 undef = .bool true := hf 1 _ (hd 1 rfl) rfl
                go_simp
                exact rfl
              · intro y ls hcl hi hd hoff hf
                left
                refine ⟨wanted_of rfl rfl rfl (hf 2 _ (hd 2 rfl) rfl), ?_⟩
                have e0 : y.tmps.getD 3 undef = .pointer (some ⟨g, 0, none⟩) := hoff.slot 3 (no_dst (by kernel_rfl))
                go_simp
                exact rfl
              · intro y ls hcl hi hd hoff hf
                left
                refine ⟨wanted_of rfl rfl rfl (hf 2 _ (hd 2 rfl) rfl), ?_⟩
                have e0 : y.tmps.getD 28 undef = .pointer (some ⟨g, 0, none⟩) := hf 3 _ (hd 3 rfl) rfl
                go_simp
                exact rfl
              · intro y ls hcl hi hd hoff hf
                left
                refine ⟨wanted_of rfl rfl rfl (hf 2 _ (hd 2 rfl) rfl), ?_⟩
                have e0 : y.tmps.getD 0 undef = .slice (some ⟨b1, o1, none⟩) n c := hoff.slot 0 (no_dst (by kernel_rfl))
                go_simp
                exact rfl
              · intro y ls hcl hi hd hoff hf
                left
                refine ⟨wanted_of rfl rfl rfl (hf 2 _ (hd 2 rfl) rfl), ?_⟩
                have e0 : y.tmps.getD 7 undef = .int .i64 (j : Int) := hoff.slot 7 (no_dst (by kernel_rfl))
                go_simp
                exact rfl
              · intro y ls hcl hi hd hoff hf
                left
                refine ⟨wanted_of rfl rfl rfl (hf 2 _ (hd 2 rfl) rfl), ?_⟩
                have e0 : y.tmps.getD 30 undef = .slice (some ⟨b1, o1, none⟩) n c := hf 5 _ (hd 5 rfl) rfl
                have e1 : y.tmps.getD 31 undef = .int .i64 (j : Int) := hf 6 _ (hd 6 rfl) rfl
                go_simp
                exact rfl
              · intro y ls hcl hi hd hoff hf
                left
                refine ⟨wanted_of rfl rfl rfl (hf 2 _ (hd 2 rfl) rfl), ?_⟩
                have e0 : y.tmps.getD 32 undef = .pointer (some ⟨b1, o1 + j * 3, none⟩) := hf 7 _ (hd 7 rfl) rfl
                go_simp
                exact rfl
              · intro y ls hcl hi hd hoff hf
                left
                refine ⟨wanted_of rfl rfl rfl (hf 2 _ (hd 2 rfl) rfl), ?_⟩
                have e0 : y.tmps.getD 33 undef = .pointer (some ⟨b1, o1 + j * 3, none⟩) := hf 8 _ (hd 8 rfl) rfl
                go_simp
                exact rfl
              · intro y ls hcl hi hd hoff hf
                left
                refine ⟨wanted_of rfl rfl rfl (hf 2 _ (hd 2 rfl) rfl), ?_⟩
                have e0 : y.tmps.getD 29 undef = .string ck := hf 4 _ (hd 4 rfl) rfl
                have e1 : y.tmps.getD 34 undef = .string xk := hf 9 _ (hd 9 rfl) rfl
                go_simp
                exact rfl
              · intro y ls hcl hi hd hoff hf
                left
                refine ⟨rfl, ?_⟩
                have e0 : y.tmps.getD 27 undef = .bool true := hf 2 _ (hd 2 rfl) rfl
                have e1 : y.tmps.getD 35 undef = .bool (Op.bytesLess ck.toList xk.toList) := hf 10 _ (hd 10 rfl) rfl
                go_simp
                exact rfl
            · intro y ls hl hoff hf
              have e3 : y.tmps.getD 36 undef = .bool (Op.bytesLess ck.toList xk.toList) := hf 11 _ rfl
              obtain ⟨zs, hzs, ha⟩ := off_form hoff (mask := [false, false, false, false, false, false, false, false, false, false, false, false, false, false, false, false, false, false, false, false, false, false, false, false, false, true, true, true, true, true, true, true, true, true, true, true, true, false, false, false, false, false, false, false, false, false, false, false, false, false, false, false, false, false, false]) (by kernel_rfl)
              rw [hzs] at e3
              subst ha
              simp only [fillFrom, Nat.zero_add, Nat.reduceAdd] at *
              rw [e3]
              clear e3 hzs hoff hf hl
              rename_i hKK
              refine hKK _ _ ?_
              clear hKK
              rw [ky_less] at hE
              cases hr : Op.bytesLess ck.toList xk.toList with
              | true =>
                rw [hr] at hE
                simp only [Bool.not_false, Bool.true_and, if_true] at hE
                have HE2 := Lib.hid hE
                clear hE
                have HP6 := Lib.hid (HOU.out.alloc (.cells #[.string ck, .string cv, .bool false] 48))
                have HW6 := Lib.hid (HC.newG U [⟨ck, cv, false⟩] #[.string ck, .string cv, .bool false] rfl 48 U.heap.size 1 rfl rfl)
                have OB6 := Lib.hid HOU.out.lt
                have hby6 := by_one hb hlt hn5
                go_upto_region 11 with (at_builtin; (with_reducible refine wpList_append_hr rfl (.tmp 37) (.tmp 39) rfl w1.heap.size (.slice A5 (n5) c5) (n5) (M) rfl HP6.out (some ⟨U.heap.size, 0, none⟩) 1 1 [⟨ck, cv, false⟩] rfl HW6.out (fun e => by cases e) hby6 (by have := HBU.out.size; simp; omega) ?_); intro A6 c6 w6 hown6 hgrow6; have HO6 := Lib.hid hown6; have B6 := Lib.hid ((HBU.out.alloc HBU.out.size _).grown hgrow6 (by have := HBU.out.size; simp; omega) (fun q hq => (OB6.out q hq).1)); clear hown6 hgrow6)
                clear f0 f1 f2 k0 k1 k2
                have f0 := (B6.out.cell (p := ⟨b1, o1 + j * 3, none⟩) hbl).trans X0.out
                have f1 := (B6.out.cell (p := ⟨b1, o1 + j * 3 + 1, none⟩) hbl).trans X1.out
                have f2 := (B6.out.cell (p := ⟨b1, o1 + j * 3 + 2, none⟩) hbl).trans X2.out
                have HP7 := Lib.hid (HO6.out.alloc (.cells #[.string xk, .string xv, .bool xg] 48))
                have HW7 := Lib.hid (HC.newG w6 [⟨xk, xv, xg⟩] #[.string xk, .string xv, .bool xg] rfl 48 w6.heap.size 1 rfl rfl)
                have OB7 := Lib.hid HO6.out.lt
                have hby7 := by_two hb hlt hl6
                go_wp2_with (at_builtin; (with_reducible refine wpList_append_hr rfl (.tmp 41) (.tmp 46) rfl w1.heap.size (.slice A6 (n5 + 1) c6) (n5 + 1) (M ++ [(⟨ck, cv, false⟩ : Cg)]) rfl HP7.out (some ⟨w6.heap.size, 0, none⟩) 1 1 [⟨xk, xv, xg⟩] rfl HW7.out (fun e => by cases e) hby7 (by have := B6.out.size; simp; omega) ?_); intro A7 c7 w7 hown7 hgrow7; have HO7 := Lib.hid hown7; have B7 := Lib.hid ((B6.out.alloc B6.out.size _).grown hgrow7 (by have := B6.out.size; simp; omega) (fun q hq => (OB7.out q hq).1)); clear hown7 hgrow7)
                go_roundg (n - (j + 1))
                case measure => omega
                case rel => exact ⟨j + 1, A7, n5 + 1 + 1, c7, true, M ++ [(⟨ck, cv, false⟩ : Cg)] ++ [(⟨xk, xv, xg⟩ : Cg)], rfl, rfl, by go_num, by omega, Nat.le_refl _, by omega, (fun e => by cases e), (HO7.out : Aside _), (B7.out : Aside _), (by have := HE2.out; rw [List.append_assoc, List.append_assoc]; exact this : Aside _)⟩
              | false =>
                rw [hr] at hE
                simp only [Bool.and_false, Bool.false_eq_true, if_false] at hE
                have HE2 := Lib.hid hE
                clear hE
                have HP7 := Lib.hid (HOU.out.alloc (.cells #[.string xk, .string xv, .bool xg] 48))
                have HW7 := Lib.hid (HC.newG U [⟨xk, xv, xg⟩] #[.string xk, .string xv, .bool xg] rfl 48 U.heap.size 1 rfl rfl)
                have OB7 := Lib.hid HOU.out.lt
                have hby7 := by_one hb hlt hn5
                go_wp2_with (at_builtin; (with_reducible refine wpList_append_hr rfl (.tmp 41) (.tmp 46) rfl w1.heap.size (.slice A5 (n5) c5) (n5) (M) rfl HP7.out (some ⟨U.heap.size, 0, none⟩) 1 1 [⟨xk, xv, xg⟩] rfl HW7.out (fun e => by cases e) hby7 (by have := HBU.out.size; simp; omega) ?_); intro A7 c7 w7 hown7 hgrow7; have HO7 := Lib.hid hown7; have B7 := Lib.hid ((HBU.out.alloc HBU.out.size _).grown hgrow7 (by have := HBU.out.size; simp; omega) (fun q hq => (OB7.out q hq).1)); clear hown7 hgrow7)
                go_roundg (n - (j + 1))
                case measure => omega
                case rel => exact ⟨j + 1, A7, n5 + 1, c7, false, M ++ [(⟨xk, xv, xg⟩ : Cg)], rfl, rfl, by go_num, by omega, Nat.le_refl _, by omega, (fun _ => by omega), (HO7.out : Aside _), (B7.out : Aside _), (by have := HE2.out; rw [List.append_assoc]; exact this : Aside _)⟩
    · obtain rfl : j = n := by omega
      have hltz : ¬ (j : Int) < (j : Int) := by omega
      have hE := HE.out
      rw [List.drop_of_length_le (by rw [HN.out]; exact Nat.le_refl _)] at hE
      cases laid with
      | true =>
        have HE2 := Lib.hid (show M = D by rw [← hE]; simp [doGo])
        clear hE HE
        go_wp2_with fail
        go_ret
        have := HO.out
        rw [HE2.out, HDC.out] at this
        exact ⟨A5, n5, c5, rfl, own_mono this HB1.out.size, HB1.out.trans (HB.out.mono HB1.out.size)⟩
      | false =>
        have HE2 := Lib.hid (show M ++ [⟨ck, cv, false⟩] = D by rw [← hE]; simp [doGo])
        clear hE HE
        have hl6 := hl5 rfl
        have k0 := (HB.out.cell (p := ⟨g, 0, none⟩) hgl).trans C0.out
        have k1 := (HB.out.cell (p := ⟨g, 1, none⟩) hgl).trans C1.out
        have k2 := (HB.out.cell (p := ⟨g, 2, none⟩) hgl).trans C2.out
        have HP7 := Lib.hid (HO.out.alloc (.cells #[.string ck, .string cv, .bool false] 48))
        have HW7 := Lib.hid (HC.newG wr [⟨ck, cv, false⟩] #[.string ck, .string cv, .bool false] rfl 48 wr.heap.size 1 rfl rfl)
        have OB7 := Lib.hid HO.out.lt

        have hby7 := by_end hb hl6
        go_wp2_with (at_builtin; (with_reducible refine wpList_append_hr rfl (.tmp 50) (.tmp 52) rfl w1.heap.size (.slice A5 (n5) c5) (n5) (M) rfl HP7.out (some ⟨wr.heap.size, 0, none⟩) 1 1 [⟨ck, cv, false⟩] rfl HW7.out (fun e => by cases e) hby7 (by have := HB.out.size; simp; omega) ?_); intro A7 c7 w7 hown7 hgrow7; have HO7 := Lib.hid hown7; have B7 := Lib.hid ((HB.out.alloc HB.out.size _).grown hgrow7 (by have := HB.out.size; simp; omega) (fun q hq => (OB7.out q hq).1)); clear hown7 hgrow7)
        go_ret
        have := HO7.out
        rw [HE2.out, HDC.out] at this
        exact ⟨A7, n5 + 1, c7, rfl, own_mono this HB1.out.size, HB1.out.trans (B7.out.mono HB1.out.size)⟩
end Go.Proofs.Ytbfhlleipeipbaa

/- What is proved: the contract of the document's All: the pairs behind a batch. Conditions: those in each statement. -/
namespace Go.Proofs.Ytbfhlleipeipbaa
open Go.Shelf Go.RowKit Go.Lib Go.Sort

theorem doGo_len (c : Cg) : ∀ (l : List Cg) (laid : Bool), (doGo c laid l).length ≤ l.length + (if laid then 0 else 1)
  | [], true => by simp [doGo]
  | [], false => by simp [doGo]
  | x :: l, laid => by
    have h1 := doGo_len c l laid
    have h2 := doGo_len c l true
    rw [doGo_cons]
    split
    · rw [List.length_cons]; omega
    · split
      · rename_i h
        have : laid = false := by cases laid <;> simp_all
        subst this
        simp only [List.length_cons, if_true, Bool.false_eq_true, if_false] at *
        omega
      · simp only [List.length_cons]; omega
theorem doC_len (l : List Cg) (c : Cg) : (doC l c).length ≤ l.length + 1 := by
  have := doGo_len (bare c) l c.gone
  unfold doC
  split at this <;> omega
theorem allC_take {l b : List Cg} {j : Nat} (h : j < b.length) : allC l (b.take (j + 1)) = doC (allC l (b.take j)) b[j] := by
  rw [List.take_succ_eq_append_getElem h]
  unfold allC
  rw [List.foldl_append]
  rfl
theorem by_all {n m j k : Nat} (hs : (n + m + 1) * 40 ≤ 140737488355328) (hj : j < m) (h : k ≤ n + j) : (k + 1) * 40 ≤ 140737488355328 := Nat.le_trans (Nat.mul_le_mul_right 40 (by omega)) hs

/-- what All answers -/
def AllPost (w : World) (k : Nat) (l : List Cg) (e : Ending) (w' : World) : Prop := ∃ A n c, e = .returned (.slice A n c) ∧ HC w' A n c l ∧ n ≤ k ∧ Below w.heap.size w w'

set_option maxRecDepth 100000 in
set_option maxHeartbeats 2000000 in
theorem All_any (A B : Option Addr) (n c m d : Nat) (l b : List Cg) (w : World) (h : HC w A n c l) (h2 : HC w B m d b) (hs : (n + m + 1) * 40 ≤ 140737488355328) :
    Calls Try.prog 15 #[.slice A n c, .slice B m d] w (AllPost w (n + m) (allC l b)) := by
  have H := Lib.hid h
  have HB := Lib.hid h2
  have HM := Lib.hid h2.1
  have HS := Lib.hid hs
  have hmm : m ≤ 140737488355328 := Nat.le_trans (show m ≤ (n + m + 1) * 40 by omega) hs
  clear h h2 hs
  go_enter Try.func15, Try.ntmps15
  go_wp2_with fail
  go_loopg [5, 6] m (fun kx v5 v6 wr => ∃ (j : Nat) (A5 : Option Addr) (n5 c5 : Nat), v5 = .slice A5 n5 c5 ∧ v6 = .int .i64 (j : Int) ∧ j ≤ m ∧ m - j ≤ kx ∧ n5 ≤ n + j ∧ Aside (HC wr A5 n5 c5 (allC l (b.take j))) ∧ Aside (Below w.heap.size w wr))
  case atStart => exact ⟨0, A, n, c, rfl, rfl, Nat.zero_le _, Nat.le_refl _, Nat.le_refl _, (H.out : Aside _), (Below.refl _ _ : Aside _)⟩
  case round =>
    obtain ⟨j, A5, n5, c5, rfl, rfl, hjm, hkx, hn5, HC5, HW⟩ := hrel
    by_cases hlt : j < m
    · have hltz : (j : Int) < (m : Int) := by omega
      have pj : (0 : Int) ≤ (j : Int) := by omega
      have hjl : j < b.length := by rw [HM.out]; exact hlt
      obtain ⟨b1, o1, eB, hbl, e0, e1, e2⟩ := HB.out.elem j hjl
      have HT := Lib.hid (allC_take (l := l) hjl)
      have hdo := Do_any A5 n5 c5 (allC l (b.take j)) b[j] wr HC5.out (by_all HS.out hlt hn5)
      have hlen := doC_len (allC l (b.take j)) b[j]
      rw [HC5.out.1] at hlen
      generalize b[j] = x at *
      obtain ⟨xk, xv, xg⟩ := x
      subst eB
      simp only at e0 e1 e2 hdo
      have d0 := (HW.out.cell (p := ⟨b1, o1 + j * 3, none⟩) hbl).trans e0
      have d1 := (HW.out.cell (p := ⟨b1, o1 + j * 3 + 1, none⟩) hbl).trans e1
      have d2 := (HW.out.cell (p := ⟨b1, o1 + j * 3 + 2, none⟩) hbl).trans e2
      have HL := Lib.hid hlen
      have HDO := Lib.hid hdo
      clear e0 e1 e2 hlen hdo
      go_wp2_with (go_at_call 35; refine HDO.out.mono ?_; rintro e w2 ⟨A6, n6, c6, rfl, ho6, hb6⟩; have HO6 := Lib.hid (own_hcG ho6).1; have B6 := Lib.hid (HW.out.trans (hb6.mono HW.out.size)); clear ho6 hb6)
      have hn6 : n6 ≤ n + (j + 1) := by have h1 := HO6.out.1; have h2 := HL.out; omega
      go_roundg (m - (j + 1))
      case measure => omega
      case rel => exact ⟨j + 1, A6, n6, c6, rfl, by go_num, by omega, Nat.le_refl _, hn6, (by rw [HT.out]; exact HO6.out), (B6.out : Aside _)⟩
    · obtain rfl : j = m := by omega
      have hltz : ¬ (j : Int) < (j : Int) := by omega
      have ht : b.take j = b := List.take_of_length_le (by rw [HM.out]; exact Nat.le_refl _)
      have HT := Lib.hid ht
      clear ht
      go_wp2_with fail
      go_ret
      have := HC5.out
      rw [HT.out] at this
      exact ⟨A5, n5, c5, rfl, this, hn5, HW.out⟩
end Go.Proofs.Ytbfhlleipeipbaa

/- What is proved: the contract of the document's Under: the pairs whose keys begin so. Conditions: those in each statement. -/
namespace Go.Proofs.Ytbfhlleipeipbaa
open Go.Shelf Go.RowKit Go.Lib Go.Sort

def begB (p : ByteArray) (x : Cg) : Bool := preB p.data.toList (ky x)

set_option maxRecDepth 100000 in
set_option maxHeartbeats 2000000 in
theorem RefUnder_any (A : Option Addr) (n c : Nat) (l : List Cg) (p : ByteArray) (w : World) (h : HC w A n c l) (hb : (n + 1) * 40 ≤ 140737488355328) :
    Calls Try.prog 22 #[.slice A n c, .string p] w (PairsPost w (l.filter (begB p))) := by
  have H := Lib.hid h
  have HN := Lib.hid h.1
  clear h
  have hmm : n ≤ 140737488355328 := Nat.le_trans (show n ≤ (n + 1) * 40 by omega) hb
  have HS := Lib.hid hb
  clear hb
  go_enter Try.func22, Try.ntmps22
  go_wp2_with fail
  go_loopg [5, 6] n (fun kx v5 v6 wr => ∃ (j : Nat) (A5 : Option Addr) (n5 c5 : Nat), v5 = .slice A5 n5 c5 ∧ v6 = .int .i64 (j : Int) ∧ j ≤ n ∧ n - j ≤ kx ∧ n5 ≤ j ∧ Aside (wr.ownsRow w.heap.size 48 3 (.slice A5 n5 c5) n5 (chV ((l.take j).filter (begB p)))) ∧ Aside (Below w.heap.size w wr))
  case atStart => exact ⟨0, none, 0, 0, rfl, rfl, Nat.zero_le _, Nat.le_refl _, Nat.le_refl _, (World.ownsRow_nil _ _ _ _ : Aside _), (Below.refl _ _ : Aside _)⟩
  case round =>
    obtain ⟨j, A5, n5, c5, rfl, rfl, hjn, hkx, hn5, HO, HB⟩ := hrel
    by_cases hlt : j < n
    · have hltz : (j : Int) < (n : Int) := by omega
      have pj : (0 : Int) ≤ (j : Int) := by omega
      have hjl : j < l.length := by rw [HN.out]; exact hlt
      obtain ⟨b1, o1, eA, hbl, e0, e1, e2⟩ := H.out.elem j hjl
      have htk : (l.take (j + 1)).filter (begB p) = (l.take j).filter (begB p) ++ [l[j]].filter (begB p) := by rw [List.take_succ_eq_append_getElem hjl, List.filter_append]
      generalize l[j] = x at *
      obtain ⟨xk, xv, xg⟩ := x
      subst eA
      simp only at e0 e1 e2
      have d0 := (HB.out.cell (p := ⟨b1, o1 + j * 3, none⟩) hbl).trans e0
      have d1 := (HB.out.cell (p := ⟨b1, o1 + j * 3 + 1, none⟩) hbl).trans e1
      have d2 := (HB.out.cell (p := ⟨b1, o1 + j * 3 + 2, none⟩) hbl).trans e2
      have HTK := Lib.hid htk
      have HP7 := Lib.hid (HO.out.alloc (.cells #[.string xk, .string xv, .bool xg] 48))
      have HW7 := Lib.hid (HC.newG wr [⟨xk, xv, xg⟩] #[.string xk, .string xv, .bool xg] rfl 48 wr.heap.size 1 rfl rfl)
      have OB7 := Lib.hid HO.out.lt
      clear e0 e1 e2 htk
      by_cases hle : p.size ≤ xk.size
      · have hlez : (p.size : Int) ≤ (xk.size : Int) := by omega
        have hpx := pre_ext xk p hle
        cases hq : ((xk.extract 0 p.size).toList == p.toList) with
        | true =>
          have hf : [(⟨xk, xv, xg⟩ : Cg)].filter (begB p) = [⟨xk, xv, xg⟩] := List.filter_cons_of_pos (show preB p.data.toList xk.data.toList = true from hpx.symm.trans hq)
          have HF := Lib.hid hf
          have hby7 := by_one HS.out hlt (Nat.le_succ_of_le hn5)
          clear hf hpx
          go_wp2_with (at_builtin; (with_reducible refine wpList_append_hr rfl (.tmp 34) (.tmp 39) rfl w.heap.size (.slice A5 n5 c5) n5 ((l.take j).filter (begB p)) rfl HP7.out (some ⟨wr.heap.size, 0, none⟩) 1 1 [⟨xk, xv, xg⟩] rfl HW7.out (fun e => by cases e) hby7 (by have := HB.out.size; simp; omega) ?_); intro A7 c7 w7 hown7 hgrow7; have HO7 := Lib.hid hown7; have B7 := Lib.hid ((HB.out.alloc HB.out.size _).grown hgrow7 (by have := HB.out.size; simp; omega) (fun q hq => (OB7.out q hq).1)); clear hown7 hgrow7)
          go_roundg (n - (j + 1))
          case measure => omega
          case rel => exact ⟨j + 1, A7, n5 + 1, c7, rfl, by go_num, by omega, Nat.le_refl _, by omega, (by rw [HTK.out, HF.out]; exact HO7.out), (B7.out : Aside _)⟩
        | false =>
          have hf : [(⟨xk, xv, xg⟩ : Cg)].filter (begB p) = [] := List.filter_cons_of_neg (by rw [show begB p ⟨xk, xv, xg⟩ = false from hpx.symm.trans hq]; exact Bool.false_ne_true)
          have HF := Lib.hid hf
          clear hf hpx
          go_wp2_with fail
          go_roundg (n - (j + 1))
          case measure => omega
          case rel => exact ⟨j + 1, A5, n5, c5, rfl, by go_num, by omega, Nat.le_refl _, by omega, (by rw [HTK.out, HF.out, List.append_nil]; exact HO.out), (HB.out : Aside _)⟩
      · have hlez : ¬ (p.size : Int) ≤ (xk.size : Int) := by omega
        have hf : [(⟨xk, xv, xg⟩ : Cg)].filter (begB p) = [] := List.filter_cons_of_neg (by
          have hd : decide (p.data.toList.length ≤ xk.data.toList.length) = false := decide_eq_false hle
          show ¬ (preB p.data.toList xk.data.toList = true)
          unfold preB
          rw [hd]
          exact Bool.false_ne_true)
        have HF := Lib.hid hf
        clear hf
        go_wp2_with fail
        go_roundg (n - (j + 1))
        case measure => omega
        case rel => exact ⟨j + 1, A5, n5, c5, rfl, by go_num, by omega, Nat.le_refl _, by omega, (by rw [HTK.out, HF.out, List.append_nil]; exact HO.out), (HB.out : Aside _)⟩
    · obtain rfl : j = n := by omega
      have hltz : ¬ (j : Int) < (j : Int) := by omega
      have ht : l.take j = l := List.take_of_length_le (by rw [HN.out]; exact Nat.le_refl _)
      have HT := Lib.hid ht
      clear ht
      go_wp2_with fail
      go_ret
      have := HO.out
      rw [HT.out] at this
      exact ⟨A5, n5, c5, rfl, this, HB.out⟩
end Go.Proofs.Ytbfhlleipeipbaa
