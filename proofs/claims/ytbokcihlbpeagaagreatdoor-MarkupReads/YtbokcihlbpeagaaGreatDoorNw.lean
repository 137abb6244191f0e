/-
  What is proved: contract of the document's opening. Conditions: those in each statement.
-/
import Derived.Test.YtbokcihlbpeagaaGreatDoorNv
import Derived.Test.YtbokcihlbpeagaaGreatDoorKc
import Derived.Deep.Cut
namespace Go.Proofs.YtbokcihlbpeagaaGreatDoor
open Go.RowKit

/-- what opening answers -/
def OpPost (w : World) (k f : Nat) (o : Out Mk) (e : Ending) (w' : World) : Prop := Below w.heap.size w w' ∧ match o with
  | .ok m n => ∃ av, AR w' w.heap.size av m.attrs ∧ e = .returned (.tuple #[mkV m av m.at_, .int .i64 ((k + n : Nat) : Int), noF])
  | o => ∃ x c, failO k f o = some (x, c) ∧ c ≠ 0 ∧ ∃ (kd : Int) (nme : ByteArray) (A : Option Addr) (ln cp : Nat) (b : Bool) (t : ByteArray) (z i : Int), e = .returned (.tuple #[.agg #[.int .i64 kd, .string nme, .slice A ln cp, .bool b, .string t, .int .i64 z], .int .i64 i, fltV x c])
theorem OpPost.fail {w w' : World} {k f : Nat} {o : Out Mk} {x : Nat} {c : Int} {kd : Int} {nme : ByteArray} {A : Option Addr} {ln cp : Nat} {b : Bool} {t : ByteArray} {z i : Int} (ho : failO k f o = some (x, c)) (hc : c ≠ 0) (hb : Below w.heap.size w w') :
    OpPost w k f o (.returned (.tuple #[.agg #[.int .i64 kd, .string nme, .slice A ln cp, .bool b, .string t, .int .i64 z], .int .i64 i, fltV x c])) w' := by
  refine ⟨hb, ?_⟩
  cases o with
  | ok a m => cases ho
  | bad d y => exact ⟨x, c, ho, hc, kd, nme, A, ln, cp, b, t, z, i, rfl⟩
  | un => exact ⟨x, c, ho, hc, kd, nme, A, ln, cp, b, t, z, i, rfl⟩

theorem Bx.grown {t : TypeId} {w w' : World} {q : Nat} {cs : Array Value} {o : Option Nat} (h : Bx t w q cs) (hg : w.grownBy w' o) (hne : o ≠ some q) : Bx t w' q cs := by
  unfold Bx; rw [hg.block q h.lt (fun e => hne e.symm)]; exact h
theorem AR.ne {w : World} {B : Nat} {v : Value} {l : List At3} (h : AR w B v l) {q : Nat} (hq : q < B) : v.ownBlock ≠ some q := fun e => by
  have := (h.lt q e).1
  omega
/-- an attribute is put behind others, in a plain line -/
theorem wpList_append_at {w : World} {ops : Array Oper} {rest : List Oper} {o : Oper} {a : Act} {Q : Exit → Act → World → Prop} (hgd : o.guard = none) (s x : Operand)
    (ho : o.op = .call { callee := .builtin .append, args := #[s, x], argTypes := #[34, 34] })
    (base : Nat) (v : Value) (l : List At3) (y : At3) (b : Nat) (hs : a.eval s = v) (hown : AR w base v l) (hx : a.eval x = .slice (some ⟨b, 0, none⟩) 1 1)
    (hb : w.heap[b]? = some (.cells (atC y).toArray 38 (0, 0))) (hn : l.length ≤ 65536) (hbase : base ≤ w.heap.size)
    (h : ∀ A' c' w', AR w' base (.slice A' (l.length + 1) c') (l ++ [y]) → w.grownBy w' v.ownBlock → wpList Tryz.prog ops Q rest (a.put o.dst (.slice A' (l.length + 1) c')) w') : wpList Tryz.prog ops Q (o :: rest) a w := by
  obtain ⟨i0, hi0, hz0, hz1, hz2⟩ := info_parts Tryz.infoAt
  refine wpList_append_own w hgd s x 34 ho base 38 i0 _ 3 40 Tryz.underlying34 hi0 hz0 hz1 hz2 rfl (by decide) v l.length (atCells l) hs hown ⟨b, 0, none⟩ 1 1 (atC y) hx rfl
    (World.news_of_block (cs := (atC y).toArray) (t := 38) (fr := (0, 0)) hb) (one_atC y) (by unfold maxLen; omega) (by omega) hbase ?_
  intro v' w' hown' hgrow _
  obtain ⟨A', c', rfl⟩ := own_slice hown'
  exact h A' c' w' (by unfold AR; rw [atCells_snoc, List.length_append]; exact hown') hgrow
set_option maxHeartbeats 4000000 in
set_option maxRecDepth 100000 in
theorem dOpening_f1 (s : ByteArray) (f : Nat) (hk : f + 1 ≤ s.size) (hs : s.size ≤ 65536) (h1 : nm (tl s (f + 1)) = 0) (w : World) :
    Calls Tryz.prog 28 #[.string s, .int .i64 (f : Int)] w (OpPost w (f + 1) f (startO f (f + 1) (tl s (f + 1)))) := by
  have hw2 : wrap64 ((f : Int) + 1) = (f : Int) + 1 := Go.IntWalk.wrap64_in _ (by omega)
  have HN := Lib.hid (dName_any s (f + 1) (f + 1) (by omega) hk hs)
  rw [show ((f + 1 : Nat) : Int) = (f : Int) + 1 by push_cast; rfl] at HN
  obtain ⟨a, ha⟩ : ∃ a, a = msA s f (f + 1) := ⟨_, rfl⟩
  obtain ⟨c, hc⟩ : ∃ c, c = msC s (f + 1) := ⟨_, rfl⟩
  have HMS := Lib.hid (dMiss_x s f (f + 1) a c ha.symm hc.symm)
  rw [show ((f + 1 : Nat) : Int) = (f : Int) + 1 by push_cast; rfl] at HMS
  have HX : Hid (failO (f + 1) f (startO f (f + 1) (tl s (f + 1))) = some (a, c) ∧ c ≠ 0) := Lib.hid (by
    rw [ha, hc]
    refine ⟨?_, msC_ne s (f + 1)⟩
    unfold startO
    refine failO_seq1 ?_
    unfold nameO
    rw [if_pos h1, failO_wrong (β := Unit)]
    exact ms_wrong hk)
  clear ha hc h1
  go_enter Tryz.func28, Tryz.ntmps28
  go_wp2_with fail
  obtain ⟨W3, hW3⟩ : ∃ W3, W3 = ((w.alloc (.cells #[.int .i64 0, .string ⟨#[]⟩, .slice none 0 0, .bool false, .string ⟨#[]⟩, .int .i64 0] 36)).alloc (.cells #[.int .i64 0, .int .i64 0] 27)).alloc (.cells #[.int .i64 1, .string ⟨#[]⟩, .slice none 0 0, .bool false, .string ⟨#[]⟩, .int .i64 (f : Int)] 36) := ⟨_, rfl⟩
  obtain ⟨g6, g8, g9, gb, gs⟩ := boxes3 w _ _ _ _ _ _ W3 hW3
  rw [← hW3]
  clear hW3
  refine (HN.out _).mono ?_
  rintro e w1 ⟨rfl, hb1⟩
  have hx6 := g6.below hb1 (by omega)
  have hx8 := g8.below hb1 (by omega)
  have hx9 := g9.below hb1 (by omega)
  have hbel : Below w.heap.size w w1 := gb.trans (hb1.mono (by omega))
  have ne69 : w.heap.size ≠ w.heap.size + 1 + 1 := by omega
  have ne89 : w.heap.size + 1 ≠ w.heap.size + 1 + 1 := by omega
  have ne86 : w.heap.size + 1 ≠ w.heap.size := by omega
  have lo6 : w.heap.size ≤ w.heap.size := Nat.le_refl _
  have lo8 : w.heap.size ≤ w.heap.size + 1 := by omega
  clear g6 g8 g9 gb gs hb1
  go_wp2_with fail
  obtain ⟨V, hV⟩ : ∃ V, V = w1.drew := ⟨_, rfl⟩
  have v9 : Bx 36 V (w.heap.size + 1 + 1) #[.int .i64 1, .string ⟨#[]⟩, .slice none 0 0, .bool false, .string ⟨#[]⟩, .int .i64 (f : Int)] := by rw [hV]; exact hx9
  have v6 : Bx 36 V w.heap.size #[.int .i64 0, .string ⟨#[]⟩, .slice none 0 0, .bool false, .string ⟨#[]⟩, .int .i64 0] := by rw [hV]; exact hx6
  have v8 : Bx 27 V (w.heap.size + 1) #[.int .i64 0, .int .i64 0] := by rw [hV]; exact hx8
  have vb : Below w.heap.size w V := by rw [hV]; exact Below.drew hbel
  obtain ⟨A, hA⟩ : ∃ A, A = V.alloc (.cells #[.int .i64 (a : Int), .int .i64 c] 27) := ⟨_, rfl⟩
  have a9 : Bx 36 A (w.heap.size + 1 + 1) #[.int .i64 1, .string ⟨#[]⟩, .slice none 0 0, .bool false, .string ⟨#[]⟩, .int .i64 (f : Int)] := by rw [hA]; exact v9.alloc _
  have a6 : Bx 36 A w.heap.size #[.int .i64 0, .string ⟨#[]⟩, .slice none 0 0, .bool false, .string ⟨#[]⟩, .int .i64 0] := by rw [hA]; exact v6.alloc _
  have a8 : Bx 27 A (w.heap.size + 1) #[.int .i64 0, .int .i64 0] := by rw [hA]; exact v8.alloc _
  have ab : Below w.heap.size w A := by rw [hA]; exact vb.alloc vb.size _
  obtain ⟨B, hB⟩ : ∃ B, B = ((((((A.setCell ⟨w.heap.size, 0, none⟩ (.int .i64 1)).setCell ⟨w.heap.size, 1, none⟩ (.string ⟨#[]⟩)).setCell ⟨w.heap.size, 2, none⟩ (.slice none 0 0)).setCell ⟨w.heap.size, 3, none⟩ (.bool false)).setCell ⟨w.heap.size, 4, none⟩ (.string ⟨#[]⟩)).setCell ⟨w.heap.size, 5, none⟩ (.int .i64 (f : Int))) := ⟨_, rfl⟩
  have b9 : Bx 36 B (w.heap.size + 1 + 1) #[.int .i64 1, .string ⟨#[]⟩, .slice none 0 0, .bool false, .string ⟨#[]⟩, .int .i64 (f : Int)] := by rw [hB]; exact ((((((a9.other ne69 _ _).other ne69 _ _).other ne69 _ _).other ne69 _ _).other ne69 _ _).other ne69 _ _)
  have b6 : Bx 36 B w.heap.size #[.int .i64 1, .string ⟨#[]⟩, .slice none 0 0, .bool false, .string ⟨#[]⟩, .int .i64 (f : Int)] := by rw [hB]; exact ((((((a6.set 0 (.int .i64 1)).set 1 (.string ⟨#[]⟩)).set 2 (.slice none 0 0)).set 3 (.bool false)).set 4 (.string ⟨#[]⟩)).set 5 (.int .i64 (f : Int)))
  have b8 : Bx 27 B (w.heap.size + 1) #[.int .i64 0, .int .i64 0] := by rw [hB]; exact ((((((a8.other (Ne.symm ne86) _ _).other (Ne.symm ne86) _ _).other (Ne.symm ne86) _ _).other (Ne.symm ne86) _ _).other (Ne.symm ne86) _ _).other (Ne.symm ne86) _ _)
  have bb : Below w.heap.size w B := by rw [hB]; exact (Below.setCell (Below.setCell (Below.setCell (Below.setCell (Below.setCell (Below.setCell ab (p := ⟨w.heap.size, 0, none⟩) lo6 _) (p := ⟨w.heap.size, 1, none⟩) lo6 _) (p := ⟨w.heap.size, 2, none⟩) lo6 _) (p := ⟨w.heap.size, 3, none⟩) lo6 _) (p := ⟨w.heap.size, 4, none⟩) lo6 _) (p := ⟨w.heap.size, 5, none⟩) lo6 _)
  obtain ⟨C, hC⟩ : ∃ C, C = ((B.setCell ⟨(w.heap.size + 1), 0, none⟩ (.int .i64 (a : Int))).setCell ⟨(w.heap.size + 1), 1, none⟩ (.int .i64 c)) := ⟨_, rfl⟩
  have c9 : Bx 36 C (w.heap.size + 1 + 1) #[.int .i64 1, .string ⟨#[]⟩, .slice none 0 0, .bool false, .string ⟨#[]⟩, .int .i64 (f : Int)] := by rw [hC]; exact ((b9.other ne89 _ _).other ne89 _ _)
  have c6 : Bx 36 C w.heap.size #[.int .i64 1, .string ⟨#[]⟩, .slice none 0 0, .bool false, .string ⟨#[]⟩, .int .i64 (f : Int)] := by rw [hC]; exact ((b6.other ne86 _ _).other ne86 _ _)
  have c8 : Bx 27 C (w.heap.size + 1) #[.int .i64 (a : Int), .int .i64 c] := by rw [hC]; exact ((b8.set 0 (.int .i64 (a : Int))).set 1 (.int .i64 c))
  have cb : Below w.heap.size w C := by rw [hC]; exact (Below.setCell (Below.setCell bb (p := ⟨(w.heap.size + 1), 0, none⟩) lo8 _) (p := ⟨(w.heap.size + 1), 1, none⟩) lo8 _)
  have X0 := Lib.hid (fun ls => rtW_cell (i := 5) (j := 6) (k := 8) (ls := ls) (p := ⟨(w.heap.size + 1 + 1), 0, none⟩) (v9.c (j := 0) rfl) (a9.c (j := 0) rfl) (b9.c (j := 0) rfl) (c9.c (j := 0) rfl))
  have X1 := Lib.hid (fun ls => rtW_cell (i := 5) (j := 6) (k := 8) (ls := ls) (p := ⟨(w.heap.size + 1 + 1), 1, none⟩) (v9.c (j := 1) rfl) (a9.c (j := 1) rfl) (b9.c (j := 1) rfl) (c9.c (j := 1) rfl))
  have X2 := Lib.hid (fun ls => rtW_cell (i := 5) (j := 6) (k := 8) (ls := ls) (p := ⟨(w.heap.size + 1 + 1), 2, none⟩) (v9.c (j := 2) rfl) (a9.c (j := 2) rfl) (b9.c (j := 2) rfl) (c9.c (j := 2) rfl))
  have X3 := Lib.hid (fun ls => rtW_cell (i := 5) (j := 6) (k := 8) (ls := ls) (p := ⟨(w.heap.size + 1 + 1), 3, none⟩) (v9.c (j := 3) rfl) (a9.c (j := 3) rfl) (b9.c (j := 3) rfl) (c9.c (j := 3) rfl))
  have X4 := Lib.hid (fun ls => rtW_cell (i := 5) (j := 6) (k := 8) (ls := ls) (p := ⟨(w.heap.size + 1 + 1), 4, none⟩) (v9.c (j := 4) rfl) (a9.c (j := 4) rfl) (b9.c (j := 4) rfl) (c9.c (j := 4) rfl))
  have X5 := Lib.hid (fun ls => rtW_cell (i := 5) (j := 6) (k := 8) (ls := ls) (p := ⟨(w.heap.size + 1 + 1), 5, none⟩) (v9.c (j := 5) rfl) (a9.c (j := 5) rfl) (b9.c (j := 5) rfl) (c9.c (j := 5) rfl))
  have A6 := Lib.hid a6
  have B8 := Lib.hid b8
  have CE := Lib.hid (And.intro c6 (And.intro c8 cb))
  have HV := Lib.hid hV
  have HA := Lib.hid hA
  have HB := Lib.hid hB
  have HC := Lib.hid hC
  clear v9 v6 v8 vb a9 a6 a8 ab b9 b6 b8 bb c9 c6 c8 cb hV hA hB hC hx9 hx6 hx8 hbel
  refine wp_region_chain (fun n => (#[.agg #[.int .i64 1, .string ⟨#[]⟩, .slice none 0 0, .bool false, .string ⟨#[]⟩, .int .i64 (f : Int)], .int .i64 ((f : Int) + 1), .string s, .int .i64 (f : Int), .int .i64 ((f : Int) + 1), .agg #[.int .i64 (a : Int), .int .i64 c], undef, .int .i64 ((f : Int) + 1), undef] : Array Value).getD n undef) (rtW 5 6 8 V A B C) (by kernel_rfl) (by kernel_rfl) (by rw [HV.out]; rfl) ?_ ?_
  · refine ⟨?_, ?_, ?_, ?_, ?_, ?_, ?_, ?_, ?_, trivial⟩
    · intro a0 ls hcl hi hd hoff hf
      left
      refine ⟨rfl, ?_⟩
      have e0 : a0.tmps.getD 7 undef = .pointer (some ⟨(w.heap.size + 1 + 1), 0, none⟩) := hoff.slot 7 (no_dst (by kernel_rfl))
      have k0 := X0.out ls
      have k1 := X1.out ls
      have k2 := X2.out ls
      have k3 := X3.out ls
      have k4 := X4.out ls
      have k5 := X5.out ls
      go_simp
      all_goals first | exact ⟨rfl, rfl⟩ | exact rfl
    · intro a0 ls hcl hi hd hoff hf
      left
      refine ⟨rfl, ?_⟩
      have e0 : a0.tmps.getD 8 undef = .int .i64 ((f : Int) + 1) := hoff.slot 8 (no_dst (by kernel_rfl))
      go_simp
      all_goals first | exact ⟨rfl, rfl⟩ | exact rfl
    · intro a0 ls hcl hi hd hoff hf
      left
      refine ⟨rfl, ?_⟩
      have e0 : a0.tmps.getD 0 undef = .string s := hoff.slot 0 (no_dst (by kernel_rfl))
      go_simp
      all_goals first | exact ⟨rfl, rfl⟩ | exact rfl
    · intro a0 ls hcl hi hd hoff hf
      left
      refine ⟨rfl, ?_⟩
      have e0 : a0.tmps.getD 1 undef = .int .i64 (f : Int) := hoff.slot 1 (no_dst (by kernel_rfl))
      go_simp
      all_goals first | exact ⟨rfl, rfl⟩ | exact rfl
    · intro a0 ls hcl hi hd hoff hf
      left
      refine ⟨rfl, ?_⟩
      have e0 : a0.tmps.getD 8 undef = .int .i64 ((f : Int) + 1) := hoff.slot 8 (no_dst (by kernel_rfl))
      go_simp
      all_goals first | exact ⟨rfl, rfl⟩ | exact rfl
    · intro a0 ls hcl hi hd hoff hf
      left
      refine ⟨rfl, ?_⟩
      have e0 : a0.tmps.getD 25 undef = .string s := hf 2 _ (hd 2 rfl) rfl
      have e1 : a0.tmps.getD 26 undef = .int .i64 (f : Int) := hf 3 _ (hd 3 rfl) rfl
      have e2 : a0.tmps.getD 27 undef = .int .i64 ((f : Int) + 1) := hf 4 _ (hd 4 rfl) rfl
      have h6 : ls 6 = false := hcl.no hi rfl rfl
      have h8 : ls 8 = false := hcl.no (hcl.no h6 (i := 7) rfl rfl) rfl rfl
      have hw : rtW 5 6 8 V A B C (updB ls 5) = A := rtW_i h8 h6 rfl
      rw [hw, rtW_0 h8 h6 hi]
      have hAA := HA.out
      go_simp
      refine (HMS.out V).mono ?_
      rintro e' w' ⟨rfl, rfl⟩
      first | exact ⟨rfl, rfl⟩ | exact ⟨rfl, hAA.symm⟩ | exact ⟨_, rfl, rfl, hAA.symm⟩
    · intro a0 ls hcl hi hd hoff hf
      left
      refine ⟨rfl, ?_⟩
      have e0 : a0.tmps.getD 4 undef = .pointer (some ⟨w.heap.size, 0, none⟩) := hoff.slot 4 (no_dst (by kernel_rfl))
      have e1 : a0.tmps.getD 23 undef = .agg #[.int .i64 1, .string ⟨#[]⟩, .slice none 0 0, .bool false, .string ⟨#[]⟩, .int .i64 (f : Int)] := hf 0 _ (hd 0 rfl) rfl
      have h8 : ls 8 = false := hcl.no (hcl.no hi (i := 7) rfl rfl) rfl rfl
      have hw : rtW 5 6 8 V A B C (updB ls 6) = B := rtW_j h8 rfl
      rw [hw, rtW_i h8 hi (hd 5 rfl)]
      have k0 := A6.out.c (j := 0) rfl
      have z0 := A6.out.fz 0
      have k1 := A6.out.c (j := 1) rfl
      have z1 := A6.out.fz 1
      have k2 := A6.out.c (j := 2) rfl
      have z2 := A6.out.fz 2
      have k3 := A6.out.c (j := 3) rfl
      have z3 := A6.out.fz 3
      have k4 := A6.out.c (j := 4) rfl
      have z4 := A6.out.fz 4
      have k5 := A6.out.c (j := 5) rfl
      have z5 := A6.out.fz 5
      have hBB := HB.out
      go_simp
      all_goals first | exact ⟨rfl, hBB.symm⟩ | exact hBB.symm
    · intro a0 ls hcl hi hd hoff hf
      left
      refine ⟨rfl, ?_⟩
      have e0 : a0.tmps.getD 24 undef = .int .i64 ((f : Int) + 1) := hf 1 _ (hd 1 rfl) rfl
      go_simp
      all_goals first | exact ⟨rfl, rfl⟩ | exact rfl
    · intro a0 ls hcl hi hd hoff hf
      left
      refine ⟨rfl, ?_⟩
      have e0 : a0.tmps.getD 6 undef = .pointer (some ⟨(w.heap.size + 1), 0, none⟩) := hoff.slot 6 (no_dst (by kernel_rfl))
      have e1 : a0.tmps.getD 28 undef = .agg #[.int .i64 (a : Int), .int .i64 c] := hf 5 _ (hd 5 rfl) rfl
      have hw : rtW 5 6 8 V A B C (updB ls 8) = C := rtW_k rfl
      have h6 : ls 6 = true := hcl 7 _ rfl (hd 7 rfl) 6 rfl
      rw [hw, rtW_j hi h6]
      have k0 := B8.out.c (j := 0) rfl
      have z0 := B8.out.fz 0
      have k1 := B8.out.c (j := 1) rfl
      have z1 := B8.out.fz 1
      have hCC := HC.out
      go_simp
      all_goals first | exact ⟨rfl, hCC.symm⟩ | exact hCC.symm
  · intro a0 ls hl hoff hf
    rw [rtW_k (hl 8 (by decide))]
    rename_i hK
    have e7 : a0.tmps.getD 5 undef = .int .i64 ((f : Int) + 1) := hf 7 _ rfl
    have e6 : a0.tmps.getD 4 undef = .pointer (some ⟨w.heap.size, 0, none⟩) := hoff.slot 4 (no_dst (by kernel_rfl))
    have e8 : a0.tmps.getD 6 undef = .pointer (some ⟨w.heap.size + 1, 0, none⟩) := hoff.slot 6 (no_dst (by kernel_rfl))
    have e6' : a0.tmps[4]?.getD undef = .pointer (some ⟨w.heap.size, 0, none⟩) := by simpa using e6
    have e7' : a0.tmps[5]?.getD undef = .int .i64 ((f : Int) + 1) := by simpa using e7
    have e8' : a0.tmps[6]?.getD undef = .pointer (some ⟨w.heap.size + 1, 0, none⟩) := by simpa using e8
    have x0 := CE.out.1.c (j := 0) rfl
    have x1 := CE.out.1.c (j := 1) rfl
    have x2 := CE.out.1.c (j := 2) rfl
    have x3 := CE.out.1.c (j := 3) rfl
    have x4 := CE.out.1.c (j := 4) rfl
    have x5 := CE.out.1.c (j := 5) rfl
    have y0 := CE.out.2.1.c (j := 0) rfl
    have y1 := CE.out.2.1.c (j := 1) rfl
    refine hK _ _ ?_
    go_wp2
    refine bodyPost_ret (v := .tuple #[.agg #[.int .i64 1, .string ⟨#[]⟩, .slice none 0 0, .bool false, .string ⟨#[]⟩, .int .i64 (f : Int)], .int .i64 ((f : Int) + 1), fltV a c]) (by simp only [results, Tryz.results28]; simp [results, go_sem, e6', e7', e8', x0, x1, x2, x3, x4, x5, y0, y1]) hoff.defers ?_
    exact OpPost.fail HX.out.1 HX.out.2 CE.out.2.2
/-- what stands while the attributes are read -/
structure OB (w W : World) (f : Nat) (NM : ByteArray) (av : Value) (zs : List At3) : Prop where
  b9 : Bx 36 W (w.heap.size + 1 + 1) #[.int .i64 1, .string NM, av, .bool false, .string ⟨#[]⟩, .int .i64 (f : Int)]
  b6 : Bx 36 W w.heap.size #[.int .i64 0, .string ⟨#[]⟩, .slice none 0 0, .bool false, .string ⟨#[]⟩, .int .i64 0]
  b8 : Bx 27 W (w.heap.size + 1) #[.int .i64 0, .int .i64 0]
  bel : Below w.heap.size w W
  row : AR W (w.heap.size + 1 + 1 + 1) av zs
theorem AtPost.out {w w' : World} {k f : Nat} {o : Out At3} {e : Ending} (h : AtPost w k f o e w') {x : Nat} {c : Int} (hx : failO k f o = some (x, c)) :
    Below w.heap.size w w' ∧ c ≠ 0 ∧ ∃ n v z i, e = .returned (.tuple #[.agg #[.string n, .string v, .int .i64 z], .int .i64 i, fltV x c]) := by
  obtain ⟨hb, h⟩ := h
  cases o with
  | ok a n => cases hx
  | bad d y => obtain ⟨x', c', h1, h2, h3⟩ := h; rw [hx] at h1; cases h1; exact ⟨hb, h2, h3⟩
  | un => obtain ⟨x', c', h1, h2, h3⟩ := h; rw [hx] at h1; cases h1; exact ⟨hb, h2, h3⟩
theorem hd_room {s : ByteArray} {k c : Nat} (h : hd (tl s k) = c) (hc : c ≠ 0) : k < s.size := by
  have := hd_ne (l := tl s k) (by rw [h]; exact hc)
  rw [tl_length] at this; omega
theorem ok_wrap2 {S t : Nat} (h : t + 1 < S) (hs : S ≤ 65536) : wrap64 ((t : Int) + 2) = (t : Int) + 2 := Go.IntWalk.wrap64_in _ (by omega)
theorem ok_wrapI {S t : Nat} (h : t < S) (hs : S ≤ 65536) : IntKind.i64.wrap ((t : Int) + 1) = (t : Int) + 1 := by rw [IntKind.wrap_i64]; omega
theorem op_len2 {e1 a b f i j to : Nat} (he : f + 1 + a = e1) (hi : i = e1 + j) (ht : i + b = to) : f + 1 + (1 + 1 + b + j + a) = to + 2 := by omega
theorem op_len {e1 a b f i j to : Nat} (he : f + 1 + a = e1) (hi : i = e1 + j) (ht : i + b = to) : f + 1 + (1 + b + j + a) = to + 1 := by omega
set_option maxHeartbeats 4000000 in
set_option maxRecDepth 100000 in
theorem dOpening_go (s : ByteArray) (f e1 : Nat) (NM : ByteArray) (hk : f + 1 ≤ s.size) (hs : s.size ≤ 65536) (he : f + 1 + nm (tl s (f + 1)) = e1) (hn : nm (tl s (f + 1)) ≠ 0) (hNM : s.extract (f + 1) e1 = NM) (h0 : ∀ b ∈ s.data.toList, b ≠ 0) (w : World) :
    Calls Tryz.prog 28 #[.string s, .int .i64 (f : Int)] w (OpPost w (f + 1) f (startO f (f + 1) (tl s (f + 1)))) := by
  have hw2 : wrap64 ((f : Int) + 1) = (f : Int) + 1 := Go.IntWalk.wrap64_in _ (by omega)
  have hnl := nm_le (tl s (f + 1))
  rw [tl_length] at hnl
  have hke : f + 1 < e1 := by omega
  have hes : e1 ≤ s.size := by omega
  have HN := Lib.hid (dName_any s (f + 1) e1 he hk hs)
  rw [show ((f + 1 : Nat) : Int) = (f : Int) + 1 by push_cast; rfl] at HN
  have hnek : ((e1 : Int) == (f : Int) + 1) = false := beq_eq_false_iff_ne.2 (by omega)
  have hez0 : (0 : Int) ≤ (f : Int) + 1 := by omega
  have hez : (f : Int) + 1 ≤ (e1 : Int) := by omega
  have hez2 : (e1 : Int) ≤ (s.size : Int) := by omega
  have hez3 : ((f : Int) + 1).toNat = f + 1 := by omega
  have HO : Hid (startO f (f + 1) (tl s (f + 1)) = ((loop stopA stepA e1 (tl s e1)).seq (tl s e1) fun zs _ l2 => (tailO l2).map fun e => (⟨1, (tl s (f + 1)).take (nm (tl s (f + 1))), zs, e, [], f⟩ : Mk)).on (nm (tl s (f + 1)))) := Lib.hid (by
    unfold startO
    rw [seq_is (show nameO (tl s (f + 1)) = .ok ((tl s (f + 1)).take (nm (tl s (f + 1)))) (nm (tl s (f + 1))) by unfold nameO; rw [if_neg hn]), tl_drop, he])
  clear hnl hn
  go_enter Tryz.func28, Tryz.ntmps28
  go_wp2_with fail
  obtain ⟨W3, hW3⟩ : ∃ W3, W3 = ((w.alloc (.cells #[.int .i64 0, .string ⟨#[]⟩, .slice none 0 0, .bool false, .string ⟨#[]⟩, .int .i64 0] 36)).alloc (.cells #[.int .i64 0, .int .i64 0] 27)).alloc (.cells #[.int .i64 1, .string ⟨#[]⟩, .slice none 0 0, .bool false, .string ⟨#[]⟩, .int .i64 (f : Int)] 36) := ⟨_, rfl⟩
  obtain ⟨g6, g8, g9, gb, gs⟩ := boxes3 w _ _ _ _ _ _ W3 hW3
  rw [← hW3]
  clear hW3
  refine (HN.out _).mono ?_
  rintro e w1 ⟨rfl, hb1⟩
  have o6 := g6.below hb1 (by omega)
  have o8 := g8.below hb1 (by omega)
  have o9 := g9.below hb1 (by omega)
  have obel : Below w.heap.size w w1 := gb.trans (hb1.mono (by omega))
  have ne69 : w.heap.size ≠ w.heap.size + 1 + 1 := by omega
  have ne89 : w.heap.size + 1 ≠ w.heap.size + 1 + 1 := by omega
  have ne86 : w.heap.size + 1 ≠ w.heap.size := by omega
  have lo6 : w.heap.size ≤ w.heap.size := Nat.le_refl _
  have lo8 : w.heap.size ≤ w.heap.size + 1 := by omega
  have oc := o9.c (j := 1) rfl
  have oz := o9.fz 1
  have HOB : Hid (OB w (w1.setCell ⟨w.heap.size + 1 + 1, 1, none⟩ (.string NM)) f NM (.slice none 0 0) []) := Lib.hid
    ⟨o9.set 1 (.string NM), o6.other (r := w.heap.size + 1 + 1) (by omega) 1 (.string NM), o8.other (r := w.heap.size + 1 + 1) (by omega) 1 (.string NM),
     Below.setCell obel (p := ⟨w.heap.size + 1 + 1, 1, none⟩) (by show w.heap.size ≤ w.heap.size + 1 + 1; omega) _, World.ownsRow_nil _ _ _ _⟩
  clear g6 g8 g9 gb gs hb1 o6 o8 o9 obel
  go_wp2_with fail
  go_loopg [8, 9, 10, 11, 12, 35, 36, 37, 38, 39, 40, 41, 42, 43, 44, 45, 46, 47, 48, 49, 50, 51, 52, 53, 54, 55, 56, 57, 58, 59, 60, 61, 62, 63, 64, 65, 66, 67, 68, 69, 70, 71, 72, 73, 74, 75, 76, 77, 78, 79, 80, 81, 82, 83, 84, 85, 86, 87, 88, 89, 90, 91, 92, 93, 94] s.size (fun kx v8 _ _ _ _ _ _ _ _ _ _ _ _ _ _ _ _ _ _ _ _ _ _ _ _ _ _ _ _ _ _ _ _ _ _ _ _ _ _ _ _ _ _ _ _ _ _ _ _ _ _ _ _ _ _ _ _ _ _ _ _ _ _ _ _ wr => ∃ (j : Nat) (zs : List At3) (av : Value), v8 = .int .i64 ((e1 + j : Nat) : Int) ∧ e1 + j ≤ s.size ∧ s.size - (e1 + j) ≤ kx ∧ Aside (Run stopA stepA e1 (tl s e1) j zs ∧ zs.length ≤ j) ∧ Aside (OB w wr f NM av zs))
  case atStart => exact ⟨0, [], _, rfl, hes, by omega, (show _ ∧ _ from ⟨Run.start _ _, Nat.le_refl _⟩), HOB.out⟩
  case round =>
    clear HOB
    obtain ⟨j, zs, av, rfl, hj, hkx, HRn, hOB⟩ := hrel
    have HRun : Hid (Run stopA stepA e1 (tl s e1) j zs ∧ zs.length ≤ j) := Lib.hid HRn
    have HS : Hid (OB w wr f NM av zs) := Lib.hid hOB
    clear HRn hOB
    obtain ⟨PA, cp, rfl⟩ := own_slice HS.out.row
    obtain ⟨i, hi⟩ : ∃ i, i = e1 + j := ⟨_, rfl⟩
    rw [← hi] at hj hkx ⊢
    obtain ⟨to, hto⟩ : ∃ to, i + wh (tl s i) = to := ⟨_, rfl⟩
    have hTL : (tl s e1).drop j = tl s i := by rw [tl_drop, hi]
    have HSt : stopA (tl s i) = (hd (tl s to) == 62 || hd (tl s to) == 47) := by unfold stopA; rw [tl_drop, hto]
    have hwl := wh_le (tl s i)
    rw [tl_length] at hwl
    have hto2 : to ≤ s.size := by omega
    have HB1 := Lib.hid (dBlanks_any s i to hto hj hs)
    have HA62 := Lib.hid (dAt_is s ⟨#[62]⟩ to (decide (hd (tl s to) = 62)) (by show _ = Lib.hasPrefix (tl s to) [62]; rw [at_hd _ _ _ (by decide)]; rfl) hto2 (by omega) (by show 1 ≤ 140737488355328; omega))
    by_cases h62 : hd (tl s to) = 62
    · have hlt2 : to < s.size := by
        have := hd_ne (l := tl s to) (by rw [h62]; decide)
        rw [tl_length] at this; omega
      have hw21 : wrap64 ((to : Int) + 1) = (to : Int) + 1 := ok_wrap hlt2 hs
      have HX : Hid (∃ N, startO f (f + 1) (tl s (f + 1)) = .ok ⟨1, (tl s (f + 1)).take (nm (tl s (f + 1))), zs, false, [], f⟩ N ∧ f + 1 + N = to + 1 ∧ (⟨((tl s (f + 1)).take (nm (tl s (f + 1)))).toArray⟩ : ByteArray) = NM) := Lib.hid ⟨1 + wh (tl s i) + j + nm (tl s (f + 1)), by
          rw [HO.out, seq_is (Run.done HRun.out.1 (by rw [hTL, HSt, h62]; rfl)), hTL]
          unfold tailO spO
          rw [seq_is rfl, tl_drop, hto, if_neg (by rw [h62]; decide)]
          unfold mustO
          rw [if_pos h62]; rfl, op_len he hi hto, by rw [← hNM, ext_part, ok_sub he]⟩
      rw [decide_eq_true h62] at HA62
      clear h62 HSt hTL hto hwl HO he hi
      go_wp2_with (first
        | (go_at_call 45; ((with_reducible refine (HB1.out _).mono ?_); rintro e w2 ⟨rfl, rfl⟩)))
      have hx9 := HS.out.b9
      have hx6 := HS.out.b6
      have hx8 := HS.out.b8
      have xo0 := hx9.c (j := 0) rfl
      have xo1 := hx9.c (j := 1) rfl
      have xo2 := hx9.c (j := 2) rfl
      have xo3 := hx9.c (j := 3) rfl
      have xo4 := hx9.c (j := 4) rfl
      have xo5 := hx9.c (j := 5) rfl
      have yo0 := hx6.c (j := 0) rfl
      have yo1 := hx6.c (j := 1) rfl
      have yo2 := hx6.c (j := 2) rfl
      have yo3 := hx6.c (j := 3) rfl
      have yo4 := hx6.c (j := 4) rfl
      have yo5 := hx6.c (j := 5) rfl
      have yf0 := hx6.fz 0
      have yf1 := hx6.fz 1
      have yf2 := hx6.fz 2
      have yf3 := hx6.fz 3
      have yf4 := hx6.fz 4
      have yf5 := hx6.fz 5
      have zo0 := hx8.c (j := 0) rfl
      have zo1 := hx8.c (j := 1) rfl
      have zf0 := hx8.fz 0
      have zf1 := hx8.fz 1
      have HB6 := Lib.hid hx6
      have HB8 := Lib.hid hx8
      have HBL := Lib.hid HS.out.bel
      have HROW := Lib.hid HS.out.row
      clear hx9 hx6 hx8
      go_wp2_with (first
        | (go_at_call 23; ((with_reducible refine (HA62.out _).mono ?_); rintro e w4 ⟨rfl, rfl⟩)))
      have p0 := HB6.out
      have q0 := HB8.out
      have r0 := HROW.out
      have r1 := r0.setAt p0 (by decide) 0 (.int .i64 1)
      have p1 := p0.set 0 (.int .i64 1)
      have q1 := q0.other (Ne.symm ne86) 0 (.int .i64 1)
      have r2 := r1.setAt p1 (by decide) 1 (.string NM)
      have p2 := p1.set 1 (.string NM)
      have q2 := q1.other (Ne.symm ne86) 1 (.string NM)
      have r3 := r2.setAt p2 (by decide) 2 (.slice PA zs.length cp)
      have p3 := p2.set 2 (.slice PA zs.length cp)
      have q3 := q2.other (Ne.symm ne86) 2 (.slice PA zs.length cp)
      have r4 := r3.setAt p3 (by decide) 3 (.bool false)
      have p4 := p3.set 3 (.bool false)
      have q4 := q3.other (Ne.symm ne86) 3 (.bool false)
      have r5 := r4.setAt p4 (by decide) 4 (.string ⟨#[]⟩)
      have p5 := p4.set 4 (.string ⟨#[]⟩)
      have q5 := q4.other (Ne.symm ne86) 4 (.string ⟨#[]⟩)
      have r6 := r5.setAt p5 (by decide) 5 (.int .i64 (f : Int))
      have p6 := p5.set 5 (.int .i64 (f : Int))
      have q6 := q5.other (Ne.symm ne86) 5 (.int .i64 (f : Int))
      have r7 := r6.setAt q6 (by decide) 0 (.int .i64 0)
      have q7 := q6.set 0 (.int .i64 0)
      have r8 := r7.setAt q7 (by decide) 1 (.int .i64 0)
      have q8 := q7.set 1 (.int .i64 0)
      have HRW := Lib.hid r8
      clear r0 q0 r1 q1 r2 q2 r3 q3 r4 q4 r5 q5 r6 q6 r7 q7 r8 q8 p0 p1 p2 p3 p4 p5 p6
      have f6 := ((((((((HB6.out.set 0 (.int .i64 1)).set 1 (.string NM)).set 2 (.slice PA zs.length cp)).set 3 (.bool false)).set 4 (.string ⟨#[]⟩)).set 5 (.int .i64 (f : Int))).other ne86 0 (.int .i64 0)).other ne86 1 (.int .i64 0))
      have f8 := ((((((((HB8.out.other (Ne.symm ne86) 0 (.int .i64 1)).other (Ne.symm ne86) 1 (.string NM)).other (Ne.symm ne86) 2 (.slice PA zs.length cp)).other (Ne.symm ne86) 3 (.bool false)).other (Ne.symm ne86) 4 (.string ⟨#[]⟩)).other (Ne.symm ne86) 5 (.int .i64 (f : Int))).set 0 (.int .i64 0)).set 1 (.int .i64 0))
      have fb := (Below.setCell (Below.setCell (Below.setCell (Below.setCell (Below.setCell (Below.setCell (Below.setCell (Below.setCell HBL.out (p := ⟨w.heap.size, 0, none⟩) lo6 (.int .i64 1)) (p := ⟨w.heap.size, 1, none⟩) lo6 (.string NM)) (p := ⟨w.heap.size, 2, none⟩) lo6 (.slice PA zs.length cp)) (p := ⟨w.heap.size, 3, none⟩) lo6 (.bool false)) (p := ⟨w.heap.size, 4, none⟩) lo6 (.string ⟨#[]⟩)) (p := ⟨w.heap.size, 5, none⟩) lo6 (.int .i64 (f : Int))) (p := ⟨w.heap.size + 1, 0, none⟩) lo8 (.int .i64 0)) (p := ⟨w.heap.size + 1, 1, none⟩) lo8 (.int .i64 0))
      have x0 := f6.c (j := 0) rfl
      have x1 := f6.c (j := 1) rfl
      have x2 := f6.c (j := 2) rfl
      have x3 := f6.c (j := 3) rfl
      have x4 := f6.c (j := 4) rfl
      have x5 := f6.c (j := 5) rfl
      have y0 := f8.c (j := 0) rfl
      have y1 := f8.c (j := 1) rfl
      clear f6 f8
      refine bodyPost_ret (v := .tuple #[.agg #[.int .i64 1, .string NM, .slice PA zs.length cp, .bool false, .string ⟨#[]⟩, .int .i64 (f : Int)], .int .i64 ((to : Int) + 1), noF]) (by simp only [results, Tryz.results28]; simp [results, go_sem, x0, x1, x2, x3, x4, x5, y0, y1, hw21]) rfl ?_
      obtain ⟨N, hN, hN2, hN3⟩ := HX.out
      refine ⟨fb, ?_⟩
      rw [hN]
      refine ⟨.slice PA zs.length cp, own_mono HRW.out (Nat.le_succ_of_le (Nat.le_succ_of_le (Nat.le_succ _))), ?_⟩
      show _ = Ending.returned (.tuple #[mkV _ _ _, .int .i64 ((f + 1 + N : Nat) : Int), noF])
      unfold mkV
      rw [hN2, hN3, Int.natCast_succ]
      rfl
    · skip
      by_cases h47 : hd (tl s to) = 47
      · skip
        have hlt2 : to < s.size := by
          have := hd_ne (l := tl s to) (by rw [h47]; decide)
          rw [tl_length] at this; omega
        have hw21 : wrap64 ((to : Int) + 1) = (to : Int) + 1 := ok_wrap hlt2 hs
        have HA47 := Lib.hid (dAt_is s ⟨#[47]⟩ to true (by show _ = Lib.hasPrefix (tl s to) [47]; rw [at_hd _ _ _ (by decide)]; exact (decide_eq_true h47).symm) hto2 (by omega) (by show 1 ≤ 140737488355328; omega))
        have HA63 := Lib.hid (dAt_is s ⟨#[62]⟩ (to + 1) (decide (hd (tl s (to + 1)) = 62)) (by show _ = Lib.hasPrefix (tl s (to + 1)) [62]; rw [at_hd _ _ _ (by decide)]; rfl) hlt2 (by omega) (by show 1 ≤ 140737488355328; omega))
        rw [Int.natCast_succ] at HA63
        rw [decide_eq_false h62] at HA62
        by_cases h3 : hd (tl s (to + 1)) = 62
        · skip
          have hlt3 : to + 1 < s.size := hd_room (c := 62) h3 (by decide)
          have hw22 : wrap64 ((to : Int) + 2) = (to : Int) + 2 := ok_wrap2 hlt3 hs
          have HX : Hid (∃ N, startO f (f + 1) (tl s (f + 1)) = .ok ⟨1, (tl s (f + 1)).take (nm (tl s (f + 1))), zs, true, [], f⟩ N ∧ f + 1 + N = to + 2 ∧ (⟨((tl s (f + 1)).take (nm (tl s (f + 1)))).toArray⟩ : ByteArray) = NM) := Lib.hid ⟨1 + 1 + wh (tl s i) + j + nm (tl s (f + 1)), by
            rw [HO.out, seq_is (Run.done HRun.out.1 (by rw [hTL, HSt, h47]; rfl)), hTL]
            unfold tailO spO
            rw [seq_is rfl, tl_drop, hto, if_pos h47, seq_is rfl, tl_drop]
            unfold mustO
            rw [if_pos h3]; rfl, op_len2 he hi hto, by rw [← hNM, ext_part, ok_sub he]⟩
          rw [decide_eq_true h3] at HA63
          clear h62 h47 h3 HSt hTL hto hwl HO he hi
          have oc := HS.out.b9.c (j := 3) rfl
          have oz := HS.out.b9.fz 3
          go_wp2_with (first
            | (go_at_call 45; ((with_reducible refine (HB1.out _).mono ?_); rintro e w2 ⟨rfl, rfl⟩))
            | (go_at_call 23; ((with_reducible refine (HA62.out _).mono ?_); rintro e w4 ⟨rfl, rfl⟩))
            | (go_at_call 23; ((with_reducible refine (HA47.out _).mono ?_); rintro e w4 ⟨rfl, rfl⟩)))
          have hx9 : Bx 36 (wr.setCell ⟨w.heap.size + 1 + 1, 3, none⟩ (.bool true)) (w.heap.size + 1 + 1) #[.int .i64 1, .string NM, .slice PA zs.length cp, .bool true, .string ⟨#[]⟩, .int .i64 (f : Int)] := HS.out.b9.set 3 (.bool true)
          have hx6 := HS.out.b6.other (r := w.heap.size + 1 + 1) (Ne.symm ne69) 3 (.bool true)
          have hx8 := HS.out.b8.other (r := w.heap.size + 1 + 1) (Ne.symm ne89) 3 (.bool true)
          have hbel := Below.setCell HS.out.bel (p := ⟨w.heap.size + 1 + 1, 3, none⟩) (Nat.le_succ_of_le (Nat.le_succ _)) (.bool true)
          have hrow := HS.out.row.setAt HS.out.b9 (by decide) 3 (.bool true)
          clear HS oc oz
          generalize wr.setCell ⟨w.heap.size + 1 + 1, 3, none⟩ (.bool true) = W5 at *
          have xo0 := hx9.c (j := 0) rfl
          have xo1 := hx9.c (j := 1) rfl
          have xo2 := hx9.c (j := 2) rfl
          have xo3 := hx9.c (j := 3) rfl
          have xo4 := hx9.c (j := 4) rfl
          have xo5 := hx9.c (j := 5) rfl
          have yo0 := hx6.c (j := 0) rfl
          have yo1 := hx6.c (j := 1) rfl
          have yo2 := hx6.c (j := 2) rfl
          have yo3 := hx6.c (j := 3) rfl
          have yo4 := hx6.c (j := 4) rfl
          have yo5 := hx6.c (j := 5) rfl
          have yf0 := hx6.fz 0
          have yf1 := hx6.fz 1
          have yf2 := hx6.fz 2
          have yf3 := hx6.fz 3
          have yf4 := hx6.fz 4
          have yf5 := hx6.fz 5
          have zo0 := hx8.c (j := 0) rfl
          have zo1 := hx8.c (j := 1) rfl
          have zf0 := hx8.fz 0
          have zf1 := hx8.fz 1
          have HB6 := Lib.hid hx6
          have HB8 := Lib.hid hx8
          have HBL := Lib.hid hbel
          have HROW := Lib.hid hrow
          clear hx9 hx6 hx8 hbel hrow
          go_wp2_with (first
            | (go_at_call 23; ((with_reducible refine (HA63.out _).mono ?_); rintro e w4 ⟨rfl, rfl⟩)))
          have p0 := HB6.out
          have q0 := HB8.out
          have r0 := HROW.out
          have r1 := r0.setAt p0 (by decide) 0 (.int .i64 1)
          have p1 := p0.set 0 (.int .i64 1)
          have q1 := q0.other (Ne.symm ne86) 0 (.int .i64 1)
          have r2 := r1.setAt p1 (by decide) 1 (.string NM)
          have p2 := p1.set 1 (.string NM)
          have q2 := q1.other (Ne.symm ne86) 1 (.string NM)
          have r3 := r2.setAt p2 (by decide) 2 (.slice PA zs.length cp)
          have p3 := p2.set 2 (.slice PA zs.length cp)
          have q3 := q2.other (Ne.symm ne86) 2 (.slice PA zs.length cp)
          have r4 := r3.setAt p3 (by decide) 3 (.bool true)
          have p4 := p3.set 3 (.bool true)
          have q4 := q3.other (Ne.symm ne86) 3 (.bool true)
          have r5 := r4.setAt p4 (by decide) 4 (.string ⟨#[]⟩)
          have p5 := p4.set 4 (.string ⟨#[]⟩)
          have q5 := q4.other (Ne.symm ne86) 4 (.string ⟨#[]⟩)
          have r6 := r5.setAt p5 (by decide) 5 (.int .i64 (f : Int))
          have p6 := p5.set 5 (.int .i64 (f : Int))
          have q6 := q5.other (Ne.symm ne86) 5 (.int .i64 (f : Int))
          have r7 := r6.setAt q6 (by decide) 0 (.int .i64 0)
          have q7 := q6.set 0 (.int .i64 0)
          have r8 := r7.setAt q7 (by decide) 1 (.int .i64 0)
          have q8 := q7.set 1 (.int .i64 0)
          have HRW := Lib.hid r8
          clear r0 q0 r1 q1 r2 q2 r3 q3 r4 q4 r5 q5 r6 q6 r7 q7 r8 q8 p0 p1 p2 p3 p4 p5 p6
          have f6 := ((((((((HB6.out.set 0 (.int .i64 1)).set 1 (.string NM)).set 2 (.slice PA zs.length cp)).set 3 (.bool true)).set 4 (.string ⟨#[]⟩)).set 5 (.int .i64 (f : Int))).other ne86 0 (.int .i64 0)).other ne86 1 (.int .i64 0))
          have f8 := ((((((((HB8.out.other (Ne.symm ne86) 0 (.int .i64 1)).other (Ne.symm ne86) 1 (.string NM)).other (Ne.symm ne86) 2 (.slice PA zs.length cp)).other (Ne.symm ne86) 3 (.bool true)).other (Ne.symm ne86) 4 (.string ⟨#[]⟩)).other (Ne.symm ne86) 5 (.int .i64 (f : Int))).set 0 (.int .i64 0)).set 1 (.int .i64 0))
          have fb := (Below.setCell (Below.setCell (Below.setCell (Below.setCell (Below.setCell (Below.setCell (Below.setCell (Below.setCell HBL.out (p := ⟨w.heap.size, 0, none⟩) lo6 (.int .i64 1)) (p := ⟨w.heap.size, 1, none⟩) lo6 (.string NM)) (p := ⟨w.heap.size, 2, none⟩) lo6 (.slice PA zs.length cp)) (p := ⟨w.heap.size, 3, none⟩) lo6 (.bool true)) (p := ⟨w.heap.size, 4, none⟩) lo6 (.string ⟨#[]⟩)) (p := ⟨w.heap.size, 5, none⟩) lo6 (.int .i64 (f : Int))) (p := ⟨w.heap.size + 1, 0, none⟩) lo8 (.int .i64 0)) (p := ⟨w.heap.size + 1, 1, none⟩) lo8 (.int .i64 0))
          have x0 := f6.c (j := 0) rfl
          have x1 := f6.c (j := 1) rfl
          have x2 := f6.c (j := 2) rfl
          have x3 := f6.c (j := 3) rfl
          have x4 := f6.c (j := 4) rfl
          have x5 := f6.c (j := 5) rfl
          have y0 := f8.c (j := 0) rfl
          have y1 := f8.c (j := 1) rfl
          clear f6 f8
          refine bodyPost_ret (v := .tuple #[.agg #[.int .i64 1, .string NM, .slice PA zs.length cp, .bool true, .string ⟨#[]⟩, .int .i64 (f : Int)], .int .i64 ((to : Int) + 2), noF]) (by simp only [results, Tryz.results28]; simp [results, go_sem, x0, x1, x2, x3, x4, x5, y0, y1, hw22]) rfl ?_
          obtain ⟨N, hN, hN2, hN3⟩ := HX.out
          refine ⟨fb, ?_⟩
          rw [hN]
          refine ⟨.slice PA zs.length cp, own_mono HRW.out (Nat.le_succ_of_le (Nat.le_succ_of_le (Nat.le_succ _))), ?_⟩
          show _ = Ending.returned (.tuple #[mkV _ _ _, .int .i64 ((f + 1 + N : Nat) : Int), noF])
          unfold mkV
          rw [hN2, hN3, Int.natCast_add]
          rfl
        · obtain ⟨a, ha⟩ : ∃ a, a = msA s f (to + 1) := ⟨_, rfl⟩
          obtain ⟨c, hc⟩ : ∃ c, c = msC s (to + 1) := ⟨_, rfl⟩
          have HMS := Lib.hid (dMiss_x s f (to + 1) a c ha.symm hc.symm)
          rw [Int.natCast_succ] at HMS
          have HX : Hid (failO (f + 1) f (startO f (f + 1) (tl s (f + 1))) = some (a, c) ∧ c ≠ 0) := Lib.hid (by
            rw [ha, hc]
            refine ⟨?_, msC_ne s (to + 1)⟩
            rw [HO.out, failO_on, he, seq_is (Run.done HRun.out.1 (by rw [hTL, HSt, h47]; rfl)), hTL, failO_on, ← hi, failO_map]
            unfold tailO spO
            rw [seq_is rfl, failO_on, tl_drop, hto, if_pos h47, seq_is rfl, failO_on, tl_drop, failO_map]
            unfold mustO
            rw [if_neg h3]
            exact ms_wrong hlt2)
          rw [decide_eq_false h3] at HA63
          clear h62 h47 h3 HSt hTL hto hwl HO he hi ha hc
          have oc := HS.out.b9.c (j := 3) rfl
          have oz := HS.out.b9.fz 3
          have hwI := ok_wrapI hlt2 hs
          go_wp2_with (first
            | (go_at_call 45; ((with_reducible refine (HB1.out _).mono ?_); rintro e w2 ⟨rfl, rfl⟩))
            | (go_at_call 23; ((with_reducible refine (HA62.out _).mono ?_); rintro e w4 ⟨rfl, rfl⟩))
            | (go_at_call 23; ((with_reducible refine (HA47.out _).mono ?_); rintro e w4 ⟨rfl, rfl⟩))
            | (go_at_call 23; ((with_reducible refine (HA63.out _).mono ?_); rintro e w4 ⟨rfl, rfl⟩)))
          have hx9 : Bx 36 (wr.setCell ⟨w.heap.size + 1 + 1, 3, none⟩ (.bool true)) (w.heap.size + 1 + 1) #[.int .i64 1, .string NM, .slice PA zs.length cp, .bool true, .string ⟨#[]⟩, .int .i64 (f : Int)] := HS.out.b9.set 3 (.bool true)
          have hx6 := HS.out.b6.other (r := w.heap.size + 1 + 1) (Ne.symm ne69) 3 (.bool true)
          have hx8 := HS.out.b8.other (r := w.heap.size + 1 + 1) (Ne.symm ne89) 3 (.bool true)
          have hbel := Below.setCell HS.out.bel (p := ⟨w.heap.size + 1 + 1, 3, none⟩) (Nat.le_succ_of_le (Nat.le_succ _)) (.bool true)
          clear HS oc oz
          generalize wr.setCell ⟨w.heap.size + 1 + 1, 3, none⟩ (.bool true) = W5 at *
          obtain ⟨V, hV⟩ : ∃ V, V = W5.drew := ⟨_, rfl⟩
          have v9 : Bx 36 V (w.heap.size + 1 + 1) #[.int .i64 1, .string NM, .slice PA zs.length cp, .bool true, .string ⟨#[]⟩, .int .i64 (f : Int)] := by rw [hV]; exact hx9
          have v6 : Bx 36 V w.heap.size #[.int .i64 0, .string ⟨#[]⟩, .slice none 0 0, .bool false, .string ⟨#[]⟩, .int .i64 0] := by rw [hV]; exact hx6
          have v8 : Bx 27 V (w.heap.size + 1) #[.int .i64 0, .int .i64 0] := by rw [hV]; exact hx8
          have vb : Below w.heap.size w V := by rw [hV]; exact Below.drew hbel
          obtain ⟨A, hA⟩ : ∃ A, A = V.alloc (.cells #[.int .i64 (a : Int), .int .i64 c] 27) := ⟨_, rfl⟩
          have a9 : Bx 36 A (w.heap.size + 1 + 1) #[.int .i64 1, .string NM, .slice PA zs.length cp, .bool true, .string ⟨#[]⟩, .int .i64 (f : Int)] := by rw [hA]; exact v9.alloc _
          have a6 : Bx 36 A w.heap.size #[.int .i64 0, .string ⟨#[]⟩, .slice none 0 0, .bool false, .string ⟨#[]⟩, .int .i64 0] := by rw [hA]; exact v6.alloc _
          have a8 : Bx 27 A (w.heap.size + 1) #[.int .i64 0, .int .i64 0] := by rw [hA]; exact v8.alloc _
          have ab : Below w.heap.size w A := by rw [hA]; exact vb.alloc vb.size _
          obtain ⟨B, hB⟩ : ∃ B, B = ((((((A.setCell ⟨w.heap.size, 0, none⟩ (.int .i64 1)).setCell ⟨w.heap.size, 1, none⟩ (.string NM)).setCell ⟨w.heap.size, 2, none⟩ (.slice PA zs.length cp)).setCell ⟨w.heap.size, 3, none⟩ (.bool true)).setCell ⟨w.heap.size, 4, none⟩ (.string ⟨#[]⟩)).setCell ⟨w.heap.size, 5, none⟩ (.int .i64 (f : Int))) := ⟨_, rfl⟩
          have b9 : Bx 36 B (w.heap.size + 1 + 1) #[.int .i64 1, .string NM, .slice PA zs.length cp, .bool true, .string ⟨#[]⟩, .int .i64 (f : Int)] := by rw [hB]; exact ((((((a9.other ne69 _ _).other ne69 _ _).other ne69 _ _).other ne69 _ _).other ne69 _ _).other ne69 _ _)
          have b6 : Bx 36 B w.heap.size #[.int .i64 1, .string NM, .slice PA zs.length cp, .bool true, .string ⟨#[]⟩, .int .i64 (f : Int)] := by rw [hB]; exact ((((((a6.set 0 (.int .i64 1)).set 1 (.string NM)).set 2 (.slice PA zs.length cp)).set 3 (.bool true)).set 4 (.string ⟨#[]⟩)).set 5 (.int .i64 (f : Int)))
          have b8 : Bx 27 B (w.heap.size + 1) #[.int .i64 0, .int .i64 0] := by rw [hB]; exact ((((((a8.other (Ne.symm ne86) _ _).other (Ne.symm ne86) _ _).other (Ne.symm ne86) _ _).other (Ne.symm ne86) _ _).other (Ne.symm ne86) _ _).other (Ne.symm ne86) _ _)
          have bb : Below w.heap.size w B := by rw [hB]; exact (Below.setCell (Below.setCell (Below.setCell (Below.setCell (Below.setCell (Below.setCell ab (p := ⟨w.heap.size, 0, none⟩) lo6 _) (p := ⟨w.heap.size, 1, none⟩) lo6 _) (p := ⟨w.heap.size, 2, none⟩) lo6 _) (p := ⟨w.heap.size, 3, none⟩) lo6 _) (p := ⟨w.heap.size, 4, none⟩) lo6 _) (p := ⟨w.heap.size, 5, none⟩) lo6 _)
          obtain ⟨C, hC⟩ : ∃ C, C = ((B.setCell ⟨(w.heap.size + 1), 0, none⟩ (.int .i64 (a : Int))).setCell ⟨(w.heap.size + 1), 1, none⟩ (.int .i64 c)) := ⟨_, rfl⟩
          have c9 : Bx 36 C (w.heap.size + 1 + 1) #[.int .i64 1, .string NM, .slice PA zs.length cp, .bool true, .string ⟨#[]⟩, .int .i64 (f : Int)] := by rw [hC]; exact ((b9.other ne89 _ _).other ne89 _ _)
          have c6 : Bx 36 C w.heap.size #[.int .i64 1, .string NM, .slice PA zs.length cp, .bool true, .string ⟨#[]⟩, .int .i64 (f : Int)] := by rw [hC]; exact ((b6.other ne86 _ _).other ne86 _ _)
          have c8 : Bx 27 C (w.heap.size + 1) #[.int .i64 (a : Int), .int .i64 c] := by rw [hC]; exact ((b8.set 0 (.int .i64 (a : Int))).set 1 (.int .i64 c))
          have cb : Below w.heap.size w C := by rw [hC]; exact (Below.setCell (Below.setCell bb (p := ⟨(w.heap.size + 1), 0, none⟩) lo8 _) (p := ⟨(w.heap.size + 1), 1, none⟩) lo8 _)
          have X0 := Lib.hid (fun ls => rtW_cell (i := 6) (j := 7) (k := 9) (ls := ls) (p := ⟨(w.heap.size + 1 + 1), 0, none⟩) (v9.c (j := 0) rfl) (a9.c (j := 0) rfl) (b9.c (j := 0) rfl) (c9.c (j := 0) rfl))
          have X1 := Lib.hid (fun ls => rtW_cell (i := 6) (j := 7) (k := 9) (ls := ls) (p := ⟨(w.heap.size + 1 + 1), 1, none⟩) (v9.c (j := 1) rfl) (a9.c (j := 1) rfl) (b9.c (j := 1) rfl) (c9.c (j := 1) rfl))
          have X2 := Lib.hid (fun ls => rtW_cell (i := 6) (j := 7) (k := 9) (ls := ls) (p := ⟨(w.heap.size + 1 + 1), 2, none⟩) (v9.c (j := 2) rfl) (a9.c (j := 2) rfl) (b9.c (j := 2) rfl) (c9.c (j := 2) rfl))
          have X3 := Lib.hid (fun ls => rtW_cell (i := 6) (j := 7) (k := 9) (ls := ls) (p := ⟨(w.heap.size + 1 + 1), 3, none⟩) (v9.c (j := 3) rfl) (a9.c (j := 3) rfl) (b9.c (j := 3) rfl) (c9.c (j := 3) rfl))
          have X4 := Lib.hid (fun ls => rtW_cell (i := 6) (j := 7) (k := 9) (ls := ls) (p := ⟨(w.heap.size + 1 + 1), 4, none⟩) (v9.c (j := 4) rfl) (a9.c (j := 4) rfl) (b9.c (j := 4) rfl) (c9.c (j := 4) rfl))
          have X5 := Lib.hid (fun ls => rtW_cell (i := 6) (j := 7) (k := 9) (ls := ls) (p := ⟨(w.heap.size + 1 + 1), 5, none⟩) (v9.c (j := 5) rfl) (a9.c (j := 5) rfl) (b9.c (j := 5) rfl) (c9.c (j := 5) rfl))
          have A6 := Lib.hid a6
          have B8 := Lib.hid b8
          have CE := Lib.hid (And.intro c6 (And.intro c8 cb))
          have HV := Lib.hid hV
          have HA := Lib.hid hA
          have HB := Lib.hid hB
          have HC := Lib.hid hC
          clear v9 v6 v8 vb a9 a6 a8 ab b9 b6 b8 bb c9 c6 c8 cb hV hA hB hC hx9 hx6 hx8 hbel
          refine wp_region_chain (fun n => (#[.agg #[.int .i64 1, .string NM, .slice PA zs.length cp, .bool true, .string ⟨#[]⟩, .int .i64 (f : Int)], .int .i64 (to : Int), .string s, .int .i64 (f : Int), .int .i64 (to : Int), .int .i64 ((to : Int) + 1), .agg #[.int .i64 (a : Int), .int .i64 c], undef, .int .i64 (to : Int), undef] : Array Value).getD n undef) (rtW 6 7 9 V A B C) (by kernel_rfl) (by kernel_rfl) (by rw [HV.out]; rfl) ?_ ?_
          · refine ⟨?_, ?_, ?_, ?_, ?_, ?_, ?_, ?_, ?_, ?_, trivial⟩
            · intro a0 ls hcl hi hd hoff hf
              left
              refine ⟨rfl, ?_⟩
              have e0 : a0.tmps.getD 7 undef = .pointer (some ⟨(w.heap.size + 1 + 1), 0, none⟩) := hoff.slot 7 (no_dst (by kernel_rfl))
              have k0 := X0.out ls
              have k1 := X1.out ls
              have k2 := X2.out ls
              have k3 := X3.out ls
              have k4 := X4.out ls
              have k5 := X5.out ls
              go_simp
              all_goals first | exact ⟨rfl, rfl⟩ | exact rfl
            · intro a0 ls hcl hi hd hoff hf
              left
              refine ⟨rfl, ?_⟩
              have e0 : a0.tmps.getD 9 undef = .int .i64 (to : Int) := hoff.slot 9 (no_dst (by kernel_rfl))
              go_simp
              all_goals first | exact ⟨rfl, rfl⟩ | exact rfl
            · intro a0 ls hcl hi hd hoff hf
              left
              refine ⟨rfl, ?_⟩
              have e0 : a0.tmps.getD 0 undef = .string s := hoff.slot 0 (no_dst (by kernel_rfl))
              go_simp
              all_goals first | exact ⟨rfl, rfl⟩ | exact rfl
            · intro a0 ls hcl hi hd hoff hf
              left
              refine ⟨rfl, ?_⟩
              have e0 : a0.tmps.getD 1 undef = .int .i64 (f : Int) := hoff.slot 1 (no_dst (by kernel_rfl))
              go_simp
              all_goals first | exact ⟨rfl, rfl⟩ | exact rfl
            · intro a0 ls hcl hi hd hoff hf
              left
              refine ⟨rfl, ?_⟩
              have e0 : a0.tmps.getD 9 undef = .int .i64 (to : Int) := hoff.slot 9 (no_dst (by kernel_rfl))
              go_simp
              all_goals first | exact ⟨rfl, rfl⟩ | exact rfl
            · intro a0 ls hcl hi hd hoff hf
              left
              refine ⟨rfl, ?_⟩
              have e0 : a0.tmps.getD 58 undef = .int .i64 (to : Int) := hf 4 _ (hd 4 rfl) rfl
              go_simp
              all_goals first | exact ⟨rfl, rfl⟩ | exact rfl | exact ⟨congrArg (fun z => a0.tmps.setIfInBounds 59 (Value.int .i64 z)) hwI, rfl⟩
            · intro a0 ls hcl hi hd hoff hf
              left
              refine ⟨rfl, ?_⟩
              have e0 : a0.tmps.getD 56 undef = .string s := hf 2 _ (hd 2 rfl) rfl
              have e1 : a0.tmps.getD 57 undef = .int .i64 (f : Int) := hf 3 _ (hd 3 rfl) rfl
              have e2 : a0.tmps.getD 59 undef = .int .i64 ((to : Int) + 1) := hf 5 _ (hd 5 rfl) rfl
              have h6 : ls 7 = false := hcl.no hi rfl rfl
              have h8 : ls 9 = false := hcl.no (hcl.no h6 (i := 8) rfl rfl) rfl rfl
              have hw : rtW 6 7 9 V A B C (updB ls 6) = A := rtW_i h8 h6 rfl
              rw [hw, rtW_0 h8 h6 hi]
              have hAA := HA.out
              go_simp
              refine (HMS.out V).mono ?_
              rintro e' w' ⟨rfl, rfl⟩
              first | exact ⟨rfl, rfl⟩ | exact ⟨rfl, hAA.symm⟩ | exact ⟨_, rfl, rfl, hAA.symm⟩
            · intro a0 ls hcl hi hd hoff hf
              left
              refine ⟨rfl, ?_⟩
              have e0 : a0.tmps.getD 4 undef = .pointer (some ⟨w.heap.size, 0, none⟩) := hoff.slot 4 (no_dst (by kernel_rfl))
              have e1 : a0.tmps.getD 54 undef = .agg #[.int .i64 1, .string NM, .slice PA zs.length cp, .bool true, .string ⟨#[]⟩, .int .i64 (f : Int)] := hf 0 _ (hd 0 rfl) rfl
              have h8 : ls 9 = false := hcl.no (hcl.no hi (i := 8) rfl rfl) rfl rfl
              have hw : rtW 6 7 9 V A B C (updB ls 7) = B := rtW_j h8 rfl
              rw [hw, rtW_i h8 hi (hd 6 rfl)]
              have k0 := A6.out.c (j := 0) rfl
              have z0 := A6.out.fz 0
              have k1 := A6.out.c (j := 1) rfl
              have z1 := A6.out.fz 1
              have k2 := A6.out.c (j := 2) rfl
              have z2 := A6.out.fz 2
              have k3 := A6.out.c (j := 3) rfl
              have z3 := A6.out.fz 3
              have k4 := A6.out.c (j := 4) rfl
              have z4 := A6.out.fz 4
              have k5 := A6.out.c (j := 5) rfl
              have z5 := A6.out.fz 5
              have hBB := HB.out
              go_simp
              all_goals first | exact ⟨rfl, hBB.symm⟩ | exact hBB.symm
            · intro a0 ls hcl hi hd hoff hf
              left
              refine ⟨rfl, ?_⟩
              have e0 : a0.tmps.getD 55 undef = .int .i64 (to : Int) := hf 1 _ (hd 1 rfl) rfl
              go_simp
              all_goals first | exact ⟨rfl, rfl⟩ | exact rfl
            · intro a0 ls hcl hi hd hoff hf
              left
              refine ⟨rfl, ?_⟩
              have e0 : a0.tmps.getD 6 undef = .pointer (some ⟨(w.heap.size + 1), 0, none⟩) := hoff.slot 6 (no_dst (by kernel_rfl))
              have e1 : a0.tmps.getD 60 undef = .agg #[.int .i64 (a : Int), .int .i64 c] := hf 6 _ (hd 6 rfl) rfl
              have hw : rtW 6 7 9 V A B C (updB ls 9) = C := rtW_k rfl
              have h6 : ls 7 = true := hcl 8 _ rfl (hd 8 rfl) 7 rfl
              rw [hw, rtW_j hi h6]
              have k0 := B8.out.c (j := 0) rfl
              have z0 := B8.out.fz 0
              have k1 := B8.out.c (j := 1) rfl
              have z1 := B8.out.fz 1
              have hCC := HC.out
              go_simp
              all_goals first | exact ⟨rfl, hCC.symm⟩ | exact hCC.symm
          · intro a0 ls hl hoff hf
            rw [rtW_k (hl 9 (by decide))]
            rename_i hK
            have e7 : a0.tmps.getD 5 undef = .int .i64 (to : Int) := hf 8 _ rfl
            have e6 : a0.tmps.getD 4 undef = .pointer (some ⟨w.heap.size, 0, none⟩) := hoff.slot 4 (no_dst (by kernel_rfl))
            have e8 : a0.tmps.getD 6 undef = .pointer (some ⟨w.heap.size + 1, 0, none⟩) := hoff.slot 6 (no_dst (by kernel_rfl))
            have e6' : a0.tmps[4]?.getD undef = .pointer (some ⟨w.heap.size, 0, none⟩) := by simpa using e6
            have e7' : a0.tmps[5]?.getD undef = .int .i64 (to : Int) := by simpa using e7
            have e8' : a0.tmps[6]?.getD undef = .pointer (some ⟨w.heap.size + 1, 0, none⟩) := by simpa using e8
            have x0 := CE.out.1.c (j := 0) rfl
            have x1 := CE.out.1.c (j := 1) rfl
            have x2 := CE.out.1.c (j := 2) rfl
            have x3 := CE.out.1.c (j := 3) rfl
            have x4 := CE.out.1.c (j := 4) rfl
            have x5 := CE.out.1.c (j := 5) rfl
            have y0 := CE.out.2.1.c (j := 0) rfl
            have y1 := CE.out.2.1.c (j := 1) rfl
            refine hK _ _ ?_
            go_wp2
            refine bodyPost_ret (v := .tuple #[.agg #[.int .i64 1, .string NM, .slice PA zs.length cp, .bool true, .string ⟨#[]⟩, .int .i64 (f : Int)], .int .i64 (to : Int), fltV a c]) (by simp only [results, Tryz.results28]; simp [results, go_sem, e6', e7', e8', x0, x1, x2, x3, x4, x5, y0, y1]) hoff.defers ?_
            exact OpPost.fail HX.out.1 HX.out.2 CE.out.2.2
      by_cases hti : to = i
      · have HA47 := Lib.hid (dAt_is s ⟨#[47]⟩ to false (by show _ = Lib.hasPrefix (tl s to) [47]; rw [at_hd _ _ _ (by decide)]; exact (decide_eq_false h47).symm) hto2 (by omega) (by show 1 ≤ 140737488355328; omega))
        have hwz : wh (tl s i) = 0 := by omega
        obtain rfl := hti
        obtain ⟨a, ha⟩ : ∃ a, a = msA s f to := ⟨_, rfl⟩
        obtain ⟨c, hc⟩ : ∃ c, c = msC s to := ⟨_, rfl⟩
        have HMS := Lib.hid (dMiss_x s f to a c ha.symm hc.symm)
        have HX : Hid (failO (f + 1) f (startO f (f + 1) (tl s (f + 1))) = some (a, c) ∧ c ≠ 0) := Lib.hid (by
          rw [ha, hc]
          refine ⟨?_, msC_ne s to⟩
          rw [HO.out, failO_on, he]
          refine failO_seq1 (failA HRun.out.1 (by rw [hTL, HSt, beq_eq_false_iff_ne.2 h62, beq_eq_false_iff_ne.2 h47]; rfl) ?_)
          rw [← hi, hTL]
          unfold stepA
          rw [if_pos hwz, failO_wrong (β := Unit)]
          exact ms_wrong hto2)
        rw [decide_eq_false h62] at HA62
        clear h62 h47 HSt hTL hto hwl HO he hi ha hc hwz
        go_wp2_with (first
          | (go_at_call 45; ((with_reducible refine (HB1.out _).mono ?_); rintro e w2 ⟨rfl, rfl⟩))
          | (go_at_call 23; ((with_reducible refine (HA62.out _).mono ?_); rintro e w4 ⟨rfl, rfl⟩))
          | (go_at_call 23; ((with_reducible refine (HA47.out _).mono ?_); rintro e w4 ⟨rfl, rfl⟩)))
        have hx9 := HS.out.b9
        have hx6 := HS.out.b6
        have hx8 := HS.out.b8
        have hbel := HS.out.bel
        obtain ⟨V, hV⟩ : ∃ V, V = wr.drew := ⟨_, rfl⟩
        have v9 : Bx 36 V (w.heap.size + 1 + 1) #[.int .i64 1, .string NM, .slice PA zs.length cp, .bool false, .string ⟨#[]⟩, .int .i64 (f : Int)] := by rw [hV]; exact hx9
        have v6 : Bx 36 V w.heap.size #[.int .i64 0, .string ⟨#[]⟩, .slice none 0 0, .bool false, .string ⟨#[]⟩, .int .i64 0] := by rw [hV]; exact hx6
        have v8 : Bx 27 V (w.heap.size + 1) #[.int .i64 0, .int .i64 0] := by rw [hV]; exact hx8
        have vb : Below w.heap.size w V := by rw [hV]; exact Below.drew hbel
        obtain ⟨A, hA⟩ : ∃ A, A = V.alloc (.cells #[.int .i64 (a : Int), .int .i64 c] 27) := ⟨_, rfl⟩
        have a9 : Bx 36 A (w.heap.size + 1 + 1) #[.int .i64 1, .string NM, .slice PA zs.length cp, .bool false, .string ⟨#[]⟩, .int .i64 (f : Int)] := by rw [hA]; exact v9.alloc _
        have a6 : Bx 36 A w.heap.size #[.int .i64 0, .string ⟨#[]⟩, .slice none 0 0, .bool false, .string ⟨#[]⟩, .int .i64 0] := by rw [hA]; exact v6.alloc _
        have a8 : Bx 27 A (w.heap.size + 1) #[.int .i64 0, .int .i64 0] := by rw [hA]; exact v8.alloc _
        have ab : Below w.heap.size w A := by rw [hA]; exact vb.alloc vb.size _
        obtain ⟨B, hB⟩ : ∃ B, B = ((((((A.setCell ⟨w.heap.size, 0, none⟩ (.int .i64 1)).setCell ⟨w.heap.size, 1, none⟩ (.string NM)).setCell ⟨w.heap.size, 2, none⟩ (.slice PA zs.length cp)).setCell ⟨w.heap.size, 3, none⟩ (.bool false)).setCell ⟨w.heap.size, 4, none⟩ (.string ⟨#[]⟩)).setCell ⟨w.heap.size, 5, none⟩ (.int .i64 (f : Int))) := ⟨_, rfl⟩
        have b9 : Bx 36 B (w.heap.size + 1 + 1) #[.int .i64 1, .string NM, .slice PA zs.length cp, .bool false, .string ⟨#[]⟩, .int .i64 (f : Int)] := by rw [hB]; exact ((((((a9.other ne69 _ _).other ne69 _ _).other ne69 _ _).other ne69 _ _).other ne69 _ _).other ne69 _ _)
        have b6 : Bx 36 B w.heap.size #[.int .i64 1, .string NM, .slice PA zs.length cp, .bool false, .string ⟨#[]⟩, .int .i64 (f : Int)] := by rw [hB]; exact ((((((a6.set 0 (.int .i64 1)).set 1 (.string NM)).set 2 (.slice PA zs.length cp)).set 3 (.bool false)).set 4 (.string ⟨#[]⟩)).set 5 (.int .i64 (f : Int)))
        have b8 : Bx 27 B (w.heap.size + 1) #[.int .i64 0, .int .i64 0] := by rw [hB]; exact ((((((a8.other (Ne.symm ne86) _ _).other (Ne.symm ne86) _ _).other (Ne.symm ne86) _ _).other (Ne.symm ne86) _ _).other (Ne.symm ne86) _ _).other (Ne.symm ne86) _ _)
        have bb : Below w.heap.size w B := by rw [hB]; exact (Below.setCell (Below.setCell (Below.setCell (Below.setCell (Below.setCell (Below.setCell ab (p := ⟨w.heap.size, 0, none⟩) lo6 _) (p := ⟨w.heap.size, 1, none⟩) lo6 _) (p := ⟨w.heap.size, 2, none⟩) lo6 _) (p := ⟨w.heap.size, 3, none⟩) lo6 _) (p := ⟨w.heap.size, 4, none⟩) lo6 _) (p := ⟨w.heap.size, 5, none⟩) lo6 _)
        obtain ⟨C, hC⟩ : ∃ C, C = ((B.setCell ⟨(w.heap.size + 1), 0, none⟩ (.int .i64 (a : Int))).setCell ⟨(w.heap.size + 1), 1, none⟩ (.int .i64 c)) := ⟨_, rfl⟩
        have c9 : Bx 36 C (w.heap.size + 1 + 1) #[.int .i64 1, .string NM, .slice PA zs.length cp, .bool false, .string ⟨#[]⟩, .int .i64 (f : Int)] := by rw [hC]; exact ((b9.other ne89 _ _).other ne89 _ _)
        have c6 : Bx 36 C w.heap.size #[.int .i64 1, .string NM, .slice PA zs.length cp, .bool false, .string ⟨#[]⟩, .int .i64 (f : Int)] := by rw [hC]; exact ((b6.other ne86 _ _).other ne86 _ _)
        have c8 : Bx 27 C (w.heap.size + 1) #[.int .i64 (a : Int), .int .i64 c] := by rw [hC]; exact ((b8.set 0 (.int .i64 (a : Int))).set 1 (.int .i64 c))
        have cb : Below w.heap.size w C := by rw [hC]; exact (Below.setCell (Below.setCell bb (p := ⟨(w.heap.size + 1), 0, none⟩) lo8 _) (p := ⟨(w.heap.size + 1), 1, none⟩) lo8 _)
        have X0 := Lib.hid (fun ls => rtW_cell (i := 5) (j := 6) (k := 8) (ls := ls) (p := ⟨(w.heap.size + 1 + 1), 0, none⟩) (v9.c (j := 0) rfl) (a9.c (j := 0) rfl) (b9.c (j := 0) rfl) (c9.c (j := 0) rfl))
        have X1 := Lib.hid (fun ls => rtW_cell (i := 5) (j := 6) (k := 8) (ls := ls) (p := ⟨(w.heap.size + 1 + 1), 1, none⟩) (v9.c (j := 1) rfl) (a9.c (j := 1) rfl) (b9.c (j := 1) rfl) (c9.c (j := 1) rfl))
        have X2 := Lib.hid (fun ls => rtW_cell (i := 5) (j := 6) (k := 8) (ls := ls) (p := ⟨(w.heap.size + 1 + 1), 2, none⟩) (v9.c (j := 2) rfl) (a9.c (j := 2) rfl) (b9.c (j := 2) rfl) (c9.c (j := 2) rfl))
        have X3 := Lib.hid (fun ls => rtW_cell (i := 5) (j := 6) (k := 8) (ls := ls) (p := ⟨(w.heap.size + 1 + 1), 3, none⟩) (v9.c (j := 3) rfl) (a9.c (j := 3) rfl) (b9.c (j := 3) rfl) (c9.c (j := 3) rfl))
        have X4 := Lib.hid (fun ls => rtW_cell (i := 5) (j := 6) (k := 8) (ls := ls) (p := ⟨(w.heap.size + 1 + 1), 4, none⟩) (v9.c (j := 4) rfl) (a9.c (j := 4) rfl) (b9.c (j := 4) rfl) (c9.c (j := 4) rfl))
        have X5 := Lib.hid (fun ls => rtW_cell (i := 5) (j := 6) (k := 8) (ls := ls) (p := ⟨(w.heap.size + 1 + 1), 5, none⟩) (v9.c (j := 5) rfl) (a9.c (j := 5) rfl) (b9.c (j := 5) rfl) (c9.c (j := 5) rfl))
        have A6 := Lib.hid a6
        have B8 := Lib.hid b8
        have CE := Lib.hid (And.intro c6 (And.intro c8 cb))
        have HV := Lib.hid hV
        have HA := Lib.hid hA
        have HB := Lib.hid hB
        have HC := Lib.hid hC
        clear v9 v6 v8 vb a9 a6 a8 ab b9 b6 b8 bb c9 c6 c8 cb hV hA hB hC hx9 hx6 hx8 hbel
        refine wp_region_chain (fun n => (#[.agg #[.int .i64 1, .string NM, .slice PA zs.length cp, .bool false, .string ⟨#[]⟩, .int .i64 (f : Int)], .int .i64 (to : Int), .string s, .int .i64 (f : Int), .int .i64 (to : Int), .agg #[.int .i64 (a : Int), .int .i64 c], undef, .int .i64 (to : Int), undef] : Array Value).getD n undef) (rtW 5 6 8 V A B C) (by kernel_rfl) (by kernel_rfl) (by rw [HV.out]; rfl) ?_ ?_
        · refine ⟨?_, ?_, ?_, ?_, ?_, ?_, ?_, ?_, ?_, trivial⟩
          · intro a0 ls hcl hi hd hoff hf
            left
            refine ⟨rfl, ?_⟩
            have e0 : a0.tmps.getD 7 undef = .pointer (some ⟨(w.heap.size + 1 + 1), 0, none⟩) := hoff.slot 7 (no_dst (by kernel_rfl))
            have k0 := X0.out ls
            have k1 := X1.out ls
            have k2 := X2.out ls
            have k3 := X3.out ls
            have k4 := X4.out ls
            have k5 := X5.out ls
            go_simp
            all_goals first | exact ⟨rfl, rfl⟩ | exact rfl
          · intro a0 ls hcl hi hd hoff hf
            left
            refine ⟨rfl, ?_⟩
            have e0 : a0.tmps.getD 8 undef = .int .i64 (to : Int) := hoff.slot 8 (no_dst (by kernel_rfl))
            go_simp
            all_goals first | exact ⟨rfl, rfl⟩ | exact rfl
          · intro a0 ls hcl hi hd hoff hf
            left
            refine ⟨rfl, ?_⟩
            have e0 : a0.tmps.getD 0 undef = .string s := hoff.slot 0 (no_dst (by kernel_rfl))
            go_simp
            all_goals first | exact ⟨rfl, rfl⟩ | exact rfl
          · intro a0 ls hcl hi hd hoff hf
            left
            refine ⟨rfl, ?_⟩
            have e0 : a0.tmps.getD 1 undef = .int .i64 (f : Int) := hoff.slot 1 (no_dst (by kernel_rfl))
            go_simp
            all_goals first | exact ⟨rfl, rfl⟩ | exact rfl
          · intro a0 ls hcl hi hd hoff hf
            left
            refine ⟨rfl, ?_⟩
            have e0 : a0.tmps.getD 8 undef = .int .i64 (to : Int) := hoff.slot 8 (no_dst (by kernel_rfl))
            go_simp
            all_goals first | exact ⟨rfl, rfl⟩ | exact rfl
          · intro a0 ls hcl hi hd hoff hf
            left
            refine ⟨rfl, ?_⟩
            have e0 : a0.tmps.getD 70 undef = .string s := hf 2 _ (hd 2 rfl) rfl
            have e1 : a0.tmps.getD 71 undef = .int .i64 (f : Int) := hf 3 _ (hd 3 rfl) rfl
            have e2 : a0.tmps.getD 72 undef = .int .i64 (to : Int) := hf 4 _ (hd 4 rfl) rfl
            have h6 : ls 6 = false := hcl.no hi rfl rfl
            have h8 : ls 8 = false := hcl.no (hcl.no h6 (i := 7) rfl rfl) rfl rfl
            have hw : rtW 5 6 8 V A B C (updB ls 5) = A := rtW_i h8 h6 rfl
            rw [hw, rtW_0 h8 h6 hi]
            have hAA := HA.out
            go_simp
            refine (HMS.out V).mono ?_
            rintro e' w' ⟨rfl, rfl⟩
            first | exact ⟨rfl, rfl⟩ | exact ⟨rfl, hAA.symm⟩ | exact ⟨_, rfl, rfl, hAA.symm⟩
          · intro a0 ls hcl hi hd hoff hf
            left
            refine ⟨rfl, ?_⟩
            have e0 : a0.tmps.getD 4 undef = .pointer (some ⟨w.heap.size, 0, none⟩) := hoff.slot 4 (no_dst (by kernel_rfl))
            have e1 : a0.tmps.getD 68 undef = .agg #[.int .i64 1, .string NM, .slice PA zs.length cp, .bool false, .string ⟨#[]⟩, .int .i64 (f : Int)] := hf 0 _ (hd 0 rfl) rfl
            have h8 : ls 8 = false := hcl.no (hcl.no hi (i := 7) rfl rfl) rfl rfl
            have hw : rtW 5 6 8 V A B C (updB ls 6) = B := rtW_j h8 rfl
            rw [hw, rtW_i h8 hi (hd 5 rfl)]
            have k0 := A6.out.c (j := 0) rfl
            have z0 := A6.out.fz 0
            have k1 := A6.out.c (j := 1) rfl
            have z1 := A6.out.fz 1
            have k2 := A6.out.c (j := 2) rfl
            have z2 := A6.out.fz 2
            have k3 := A6.out.c (j := 3) rfl
            have z3 := A6.out.fz 3
            have k4 := A6.out.c (j := 4) rfl
            have z4 := A6.out.fz 4
            have k5 := A6.out.c (j := 5) rfl
            have z5 := A6.out.fz 5
            have hBB := HB.out
            go_simp
            all_goals first | exact ⟨rfl, hBB.symm⟩ | exact hBB.symm
          · intro a0 ls hcl hi hd hoff hf
            left
            refine ⟨rfl, ?_⟩
            have e0 : a0.tmps.getD 69 undef = .int .i64 (to : Int) := hf 1 _ (hd 1 rfl) rfl
            go_simp
            all_goals first | exact ⟨rfl, rfl⟩ | exact rfl
          · intro a0 ls hcl hi hd hoff hf
            left
            refine ⟨rfl, ?_⟩
            have e0 : a0.tmps.getD 6 undef = .pointer (some ⟨(w.heap.size + 1), 0, none⟩) := hoff.slot 6 (no_dst (by kernel_rfl))
            have e1 : a0.tmps.getD 73 undef = .agg #[.int .i64 (a : Int), .int .i64 c] := hf 5 _ (hd 5 rfl) rfl
            have hw : rtW 5 6 8 V A B C (updB ls 8) = C := rtW_k rfl
            have h6 : ls 6 = true := hcl 7 _ rfl (hd 7 rfl) 6 rfl
            rw [hw, rtW_j hi h6]
            have k0 := B8.out.c (j := 0) rfl
            have z0 := B8.out.fz 0
            have k1 := B8.out.c (j := 1) rfl
            have z1 := B8.out.fz 1
            have hCC := HC.out
            go_simp
            all_goals first | exact ⟨rfl, hCC.symm⟩ | exact hCC.symm
        · intro a0 ls hl hoff hf
          rw [rtW_k (hl 8 (by decide))]
          rename_i hK
          have e7 : a0.tmps.getD 5 undef = .int .i64 (to : Int) := hf 7 _ rfl
          have e6 : a0.tmps.getD 4 undef = .pointer (some ⟨w.heap.size, 0, none⟩) := hoff.slot 4 (no_dst (by kernel_rfl))
          have e8 : a0.tmps.getD 6 undef = .pointer (some ⟨w.heap.size + 1, 0, none⟩) := hoff.slot 6 (no_dst (by kernel_rfl))
          have e6' : a0.tmps[4]?.getD undef = .pointer (some ⟨w.heap.size, 0, none⟩) := by simpa using e6
          have e7' : a0.tmps[5]?.getD undef = .int .i64 (to : Int) := by simpa using e7
          have e8' : a0.tmps[6]?.getD undef = .pointer (some ⟨w.heap.size + 1, 0, none⟩) := by simpa using e8
          have x0 := CE.out.1.c (j := 0) rfl
          have x1 := CE.out.1.c (j := 1) rfl
          have x2 := CE.out.1.c (j := 2) rfl
          have x3 := CE.out.1.c (j := 3) rfl
          have x4 := CE.out.1.c (j := 4) rfl
          have x5 := CE.out.1.c (j := 5) rfl
          have y0 := CE.out.2.1.c (j := 0) rfl
          have y1 := CE.out.2.1.c (j := 1) rfl
          refine hK _ _ ?_
          go_wp2
          refine bodyPost_ret (v := .tuple #[.agg #[.int .i64 1, .string NM, .slice PA zs.length cp, .bool false, .string ⟨#[]⟩, .int .i64 (f : Int)], .int .i64 (to : Int), fltV a c]) (by simp only [results, Tryz.results28]; simp [results, go_sem, e6', e7', e8', x0, x1, x2, x3, x4, x5, y0, y1]) hoff.defers ?_
          exact OpPost.fail HX.out.1 HX.out.2 CE.out.2.2
      have HA47 := Lib.hid (dAt_is s ⟨#[47]⟩ to false (by show _ = Lib.hasPrefix (tl s to) [47]; rw [at_hd _ _ _ (by decide)]; exact (decide_eq_false h47).symm) hto2 (by omega) (by show 1 ≤ 140737488355328; omega))
      have hwz : wh (tl s i) ≠ 0 := by omega
      have hs0 : stopA ((tl s e1).drop j) = false := by rw [hTL, HSt, beq_eq_false_iff_ne.2 h62, beq_eq_false_iff_ne.2 h47]; rfl
      have htn : ((to : Int) == (i : Int)) = false := beq_eq_false_iff_ne.2 (fun e => hti (Int.ofNat.inj e))
      have HAT := Lib.hid (dAttr_any s f to hto2 hs h0)
      rw [decide_eq_false h62] at HA62
      by_cases hok : ∀ a n, attrO to (tl s to) ≠ .ok a n
      · obtain ⟨a, c, hxc⟩ := failO_fix (k := to) (f := f) hok
        have HX : Hid (failO (f + 1) f (startO f (f + 1) (tl s (f + 1))) = some (a, c)) := Lib.hid (by
          rw [HO.out, failO_on, he]
          refine failO_seq1 (failA HRun.out.1 hs0 ?_)
          rw [← hi, hTL]
          unfold stepA
          rw [if_neg hwz, failO_on, tl_drop, hto]
          exact hxc)
        have HXC := Lib.hid hxc
        clear h62 h47 HSt hTL hto hwl HO he hi hwz hs0 hok hxc
        go_wp2_with (first
          | (go_at_call 45; ((with_reducible refine (HB1.out _).mono ?_); rintro e w2 ⟨rfl, rfl⟩))
          | (go_at_call 23; ((with_reducible refine (HA62.out _).mono ?_); rintro e w4 ⟨rfl, rfl⟩))
          | (go_at_call 23; ((with_reducible refine (HA47.out _).mono ?_); rintro e w4 ⟨rfl, rfl⟩)))
        refine (HAT.out _).mono ?_
        rintro e w6 hAP
        obtain ⟨hb6, hcn, an, avl, az, ai, rfl⟩ := hAP.out HXC.out
        have hcz : (c == 0) = false := beq_eq_false_iff_ne.2 hcn
        have hcz2 : (c != 0) = true := bne_iff_ne.2 hcn
        have hs6 := hb6.size
        have hs9 := HS.out.b9.lt
        have gx9 := HS.out.b9.below hb6 (by omega)
        have gx6 := HS.out.b6.below hb6 (by omega)
        have gx8 := HS.out.b8.below hb6 (by omega)
        have gbel := HS.out.bel.trans (hb6.mono (by omega))
        have HXN := Lib.hid hcn
        have HL : Hid (w.heap.size + 1 + 1 < w6.heap.size) := Lib.hid (by omega)
        have GX9 := Lib.hid gx9
        have GX6 := Lib.hid gx6
        have GX8 := Lib.hid gx8
        have GB := Lib.hid gbel
        clear hAP hcn hs6 hs9 gx9 gx6 gx8 gbel hb6
        go_wp2_with fail
        have sz : (w6.alloc (.cells #[.string an, .string avl, .int .i64 az] 38)).heap.size = w6.heap.size + 1 := by simp
        have hx13 := Bx.new (w6.alloc (.cells #[.string an, .string avl, .int .i64 az] 38)) 27 #[.int .i64 (a : Int), .int .i64 c]
        rw [sz] at hx13
        have hx9 := (GX9.out.alloc (.cells #[.string an, .string avl, .int .i64 az] 38)).alloc (.cells #[.int .i64 (a : Int), .int .i64 c] 27)
        have hx6 := (GX6.out.alloc (.cells #[.string an, .string avl, .int .i64 az] 38)).alloc (.cells #[.int .i64 (a : Int), .int .i64 c] 27)
        have hx8 := (GX8.out.alloc (.cells #[.string an, .string avl, .int .i64 az] 38)).alloc (.cells #[.int .i64 (a : Int), .int .i64 c] 27)
        have hbel := (GB.out.alloc (by have := HL.out; omega) (.cells #[.string an, .string avl, .int .i64 az] 38)).alloc (by rw [sz]; have := HL.out; omega) (.cells #[.int .i64 (a : Int), .int .i64 c] 27)
        have ne613 : w.heap.size ≠ w6.heap.size + 1 := by have := HL.out; omega
        have ne813 : w.heap.size + 1 ≠ w6.heap.size + 1 := by have := HL.out; omega
        have HX := Lib.hid (And.intro HX.out HXN.out)
        clear sz GX9 GX6 GX8 GB HL
        generalize (w6.alloc (.cells #[.string an, .string avl, .int .i64 az] 38)).alloc (.cells #[.int .i64 (a : Int), .int .i64 c] 27) = W7 at *
        generalize w6.heap.size + 1 = b13 at *
        obtain ⟨V, hV⟩ : ∃ V, V = W7.drew := ⟨_, rfl⟩
        have v9 : Bx 36 V (w.heap.size + 1 + 1) #[.int .i64 1, .string NM, .slice PA zs.length cp, .bool false, .string ⟨#[]⟩, .int .i64 (f : Int)] := by rw [hV]; exact hx9
        have v6 : Bx 36 V w.heap.size #[.int .i64 0, .string ⟨#[]⟩, .slice none 0 0, .bool false, .string ⟨#[]⟩, .int .i64 0] := by rw [hV]; exact hx6
        have v8 : Bx 27 V (w.heap.size + 1) #[.int .i64 0, .int .i64 0] := by rw [hV]; exact hx8
        have vb : Below w.heap.size w V := by rw [hV]; exact Below.drew hbel
        have v13 : Bx 27 V b13 #[.int .i64 (a : Int), .int .i64 c] := by rw [hV]; exact hx13
        obtain ⟨A, hA⟩ : ∃ A, A = V := ⟨_, rfl⟩
        have a9 := v9
        have a6 := v6
        have a8 := v8
        have a13 := v13
        have ab := vb
        rw [← hA] at a9 a6 a8 a13 ab
        obtain ⟨B, hB⟩ : ∃ B, B = ((((((A.setCell ⟨w.heap.size, 0, none⟩ (.int .i64 1)).setCell ⟨w.heap.size, 1, none⟩ (.string NM)).setCell ⟨w.heap.size, 2, none⟩ (.slice PA zs.length cp)).setCell ⟨w.heap.size, 3, none⟩ (.bool false)).setCell ⟨w.heap.size, 4, none⟩ (.string ⟨#[]⟩)).setCell ⟨w.heap.size, 5, none⟩ (.int .i64 (f : Int))) := ⟨_, rfl⟩
        have b9 : Bx 36 B (w.heap.size + 1 + 1) #[.int .i64 1, .string NM, .slice PA zs.length cp, .bool false, .string ⟨#[]⟩, .int .i64 (f : Int)] := by rw [hB]; exact ((((((a9.other ne69 _ _).other ne69 _ _).other ne69 _ _).other ne69 _ _).other ne69 _ _).other ne69 _ _)
        have b6 : Bx 36 B w.heap.size #[.int .i64 1, .string NM, .slice PA zs.length cp, .bool false, .string ⟨#[]⟩, .int .i64 (f : Int)] := by rw [hB]; exact ((((((a6.set 0 (.int .i64 1)).set 1 (.string NM)).set 2 (.slice PA zs.length cp)).set 3 (.bool false)).set 4 (.string ⟨#[]⟩)).set 5 (.int .i64 (f : Int)))
        have b8 : Bx 27 B (w.heap.size + 1) #[.int .i64 0, .int .i64 0] := by rw [hB]; exact ((((((a8.other (Ne.symm ne86) _ _).other (Ne.symm ne86) _ _).other (Ne.symm ne86) _ _).other (Ne.symm ne86) _ _).other (Ne.symm ne86) _ _).other (Ne.symm ne86) _ _)
        have bb : Below w.heap.size w B := by rw [hB]; exact (Below.setCell (Below.setCell (Below.setCell (Below.setCell (Below.setCell (Below.setCell ab (p := ⟨w.heap.size, 0, none⟩) lo6 _) (p := ⟨w.heap.size, 1, none⟩) lo6 _) (p := ⟨w.heap.size, 2, none⟩) lo6 _) (p := ⟨w.heap.size, 3, none⟩) lo6 _) (p := ⟨w.heap.size, 4, none⟩) lo6 _) (p := ⟨w.heap.size, 5, none⟩) lo6 _)
        have bq13 : Bx 27 B b13 #[.int .i64 (a : Int), .int .i64 c] := by rw [hB]; exact ((((((a13.other ne613 _ _).other ne613 _ _).other ne613 _ _).other ne613 _ _).other ne613 _ _).other ne613 _ _)
        obtain ⟨C, hC⟩ : ∃ C, C = ((B.setCell ⟨(w.heap.size + 1), 0, none⟩ (.int .i64 (a : Int))).setCell ⟨(w.heap.size + 1), 1, none⟩ (.int .i64 c)) := ⟨_, rfl⟩
        have c9 : Bx 36 C (w.heap.size + 1 + 1) #[.int .i64 1, .string NM, .slice PA zs.length cp, .bool false, .string ⟨#[]⟩, .int .i64 (f : Int)] := by rw [hC]; exact ((b9.other ne89 _ _).other ne89 _ _)
        have c6 : Bx 36 C w.heap.size #[.int .i64 1, .string NM, .slice PA zs.length cp, .bool false, .string ⟨#[]⟩, .int .i64 (f : Int)] := by rw [hC]; exact ((b6.other ne86 _ _).other ne86 _ _)
        have c8 : Bx 27 C (w.heap.size + 1) #[.int .i64 (a : Int), .int .i64 c] := by rw [hC]; exact ((b8.set 0 (.int .i64 (a : Int))).set 1 (.int .i64 c))
        have cb : Below w.heap.size w C := by rw [hC]; exact (Below.setCell (Below.setCell bb (p := ⟨(w.heap.size + 1), 0, none⟩) lo8 _) (p := ⟨(w.heap.size + 1), 1, none⟩) lo8 _)
        have c13 : Bx 27 C b13 #[.int .i64 (a : Int), .int .i64 c] := by rw [hC]; exact ((bq13.other ne813 _ _).other ne813 _ _)
        have X0 := Lib.hid (fun ls => rtW_cell (i := 99) (j := 3) (k := 5) (ls := ls) (p := ⟨(w.heap.size + 1 + 1), 0, none⟩) (v9.c (j := 0) rfl) (a9.c (j := 0) rfl) (b9.c (j := 0) rfl) (c9.c (j := 0) rfl))
        have X1 := Lib.hid (fun ls => rtW_cell (i := 99) (j := 3) (k := 5) (ls := ls) (p := ⟨(w.heap.size + 1 + 1), 1, none⟩) (v9.c (j := 1) rfl) (a9.c (j := 1) rfl) (b9.c (j := 1) rfl) (c9.c (j := 1) rfl))
        have X2 := Lib.hid (fun ls => rtW_cell (i := 99) (j := 3) (k := 5) (ls := ls) (p := ⟨(w.heap.size + 1 + 1), 2, none⟩) (v9.c (j := 2) rfl) (a9.c (j := 2) rfl) (b9.c (j := 2) rfl) (c9.c (j := 2) rfl))
        have X3 := Lib.hid (fun ls => rtW_cell (i := 99) (j := 3) (k := 5) (ls := ls) (p := ⟨(w.heap.size + 1 + 1), 3, none⟩) (v9.c (j := 3) rfl) (a9.c (j := 3) rfl) (b9.c (j := 3) rfl) (c9.c (j := 3) rfl))
        have X4 := Lib.hid (fun ls => rtW_cell (i := 99) (j := 3) (k := 5) (ls := ls) (p := ⟨(w.heap.size + 1 + 1), 4, none⟩) (v9.c (j := 4) rfl) (a9.c (j := 4) rfl) (b9.c (j := 4) rfl) (c9.c (j := 4) rfl))
        have X5 := Lib.hid (fun ls => rtW_cell (i := 99) (j := 3) (k := 5) (ls := ls) (p := ⟨(w.heap.size + 1 + 1), 5, none⟩) (v9.c (j := 5) rfl) (a9.c (j := 5) rfl) (b9.c (j := 5) rfl) (c9.c (j := 5) rfl))
        have Y0 := Lib.hid (fun ls => rtW_cell (i := 99) (j := 3) (k := 5) (ls := ls) (p := ⟨b13, 0, none⟩) (v13.c (j := 0) rfl) (a13.c (j := 0) rfl) (bq13.c (j := 0) rfl) (c13.c (j := 0) rfl))
        have Y1 := Lib.hid (fun ls => rtW_cell (i := 99) (j := 3) (k := 5) (ls := ls) (p := ⟨b13, 1, none⟩) (v13.c (j := 1) rfl) (a13.c (j := 1) rfl) (bq13.c (j := 1) rfl) (c13.c (j := 1) rfl))
        have A6 := Lib.hid a6
        have B8 := Lib.hid b8
        have CE := Lib.hid (And.intro c6 (And.intro c8 cb))
        have HV := Lib.hid hV
        have HA := Lib.hid hA
        have HB := Lib.hid hB
        have HC := Lib.hid hC
        clear v9 v6 v8 vb a9 a6 a8 ab b9 b6 b8 bb c9 c6 c8 cb hV hA hB hC hx9 hx6 hx8 hbel v13 a13 bq13 c13 hx13
        refine wp_region_chain (fun n => (#[.agg #[.int .i64 1, .string NM, .slice PA zs.length cp, .bool false, .string ⟨#[]⟩, .int .i64 (f : Int)], .int .i64 (i : Int), .agg #[.int .i64 (a : Int), .int .i64 c], undef, .int .i64 (i : Int), undef] : Array Value).getD n undef) (rtW 99 3 5 V A B C) (by kernel_rfl) (by kernel_rfl) (by rw [HV.out]; rfl) ?_ ?_
        · refine ⟨?_, ?_, ?_, ?_, ?_, ?_, trivial⟩
          · intro a0 ls hcl hi hd hoff hf
            left
            refine ⟨rfl, ?_⟩
            have e0 : a0.tmps.getD 7 undef = .pointer (some ⟨(w.heap.size + 1 + 1), 0, none⟩) := hoff.slot 7 (no_dst (by kernel_rfl))
            have k0 := X0.out ls
            have k1 := X1.out ls
            have k2 := X2.out ls
            have k3 := X3.out ls
            have k4 := X4.out ls
            have k5 := X5.out ls
            go_simp
            all_goals first | exact ⟨rfl, rfl⟩ | exact rfl
          · intro a0 ls hcl hi hd hoff hf
            left
            refine ⟨rfl, ?_⟩
            have e0 : a0.tmps.getD 8 undef = .int .i64 (i : Int) := hoff.slot 8 (no_dst (by kernel_rfl))
            go_simp
            all_goals first | exact ⟨rfl, rfl⟩ | exact rfl
          · intro a0 ls hcl hi hd hoff hf
            left
            refine ⟨rfl, ?_⟩
            have e0 : a0.tmps.getD 12 undef = .pointer (some ⟨b13, 0, none⟩) := hoff.slot 12 (no_dst (by kernel_rfl))
            have k0 := Y0.out ls
            have k1 := Y1.out ls
            go_simp
            all_goals first | exact ⟨rfl, rfl⟩ | exact rfl
          · intro a0 ls hcl hi hd hoff hf
            left
            refine ⟨rfl, ?_⟩
            have e0 : a0.tmps.getD 4 undef = .pointer (some ⟨w.heap.size, 0, none⟩) := hoff.slot 4 (no_dst (by kernel_rfl))
            have e1 : a0.tmps.getD 85 undef = .agg #[.int .i64 1, .string NM, .slice PA zs.length cp, .bool false, .string ⟨#[]⟩, .int .i64 (f : Int)] := hf 0 _ (hd 0 rfl) rfl
            have h8 : ls 5 = false := hcl.no (hcl.no hi (i := 4) rfl rfl) rfl rfl
            have hw : rtW 99 3 5 V A B C (updB ls 3) = B := rtW_j h8 rfl
            rw [hw, rtW_n h8 hi HA.out]
            have k0 := A6.out.c (j := 0) rfl
            have z0 := A6.out.fz 0
            have k1 := A6.out.c (j := 1) rfl
            have z1 := A6.out.fz 1
            have k2 := A6.out.c (j := 2) rfl
            have z2 := A6.out.fz 2
            have k3 := A6.out.c (j := 3) rfl
            have z3 := A6.out.fz 3
            have k4 := A6.out.c (j := 4) rfl
            have z4 := A6.out.fz 4
            have k5 := A6.out.c (j := 5) rfl
            have z5 := A6.out.fz 5
            have hBB := HB.out
            go_simp
            all_goals first | exact ⟨rfl, hBB.symm⟩ | exact hBB.symm
          · intro a0 ls hcl hi hd hoff hf
            left
            refine ⟨rfl, ?_⟩
            have e0 : a0.tmps.getD 86 undef = .int .i64 (i : Int) := hf 1 _ (hd 1 rfl) rfl
            go_simp
            all_goals first | exact ⟨rfl, rfl⟩ | exact rfl
          · intro a0 ls hcl hi hd hoff hf
            left
            refine ⟨rfl, ?_⟩
            have e0 : a0.tmps.getD 6 undef = .pointer (some ⟨(w.heap.size + 1), 0, none⟩) := hoff.slot 6 (no_dst (by kernel_rfl))
            have e1 : a0.tmps.getD 87 undef = .agg #[.int .i64 (a : Int), .int .i64 c] := hf 2 _ (hd 2 rfl) rfl
            have hw : rtW 99 3 5 V A B C (updB ls 5) = C := rtW_k rfl
            have h6 : ls 3 = true := hcl 4 _ rfl (hd 4 rfl) 3 rfl
            rw [hw, rtW_j hi h6]
            have k0 := B8.out.c (j := 0) rfl
            have z0 := B8.out.fz 0
            have k1 := B8.out.c (j := 1) rfl
            have z1 := B8.out.fz 1
            have hCC := HC.out
            go_simp
            all_goals first | exact ⟨rfl, hCC.symm⟩ | exact hCC.symm
        · intro a0 ls hl hoff hf
          rw [rtW_k (hl 5 (by decide))]
          rename_i hK
          have e7 : a0.tmps.getD 5 undef = .int .i64 (i : Int) := hf 4 _ rfl
          have e6 : a0.tmps.getD 4 undef = .pointer (some ⟨w.heap.size, 0, none⟩) := hoff.slot 4 (no_dst (by kernel_rfl))
          have e8 : a0.tmps.getD 6 undef = .pointer (some ⟨w.heap.size + 1, 0, none⟩) := hoff.slot 6 (no_dst (by kernel_rfl))
          have e6' : a0.tmps[4]?.getD undef = .pointer (some ⟨w.heap.size, 0, none⟩) := by simpa using e6
          have e7' : a0.tmps[5]?.getD undef = .int .i64 (i : Int) := by simpa using e7
          have e8' : a0.tmps[6]?.getD undef = .pointer (some ⟨w.heap.size + 1, 0, none⟩) := by simpa using e8
          have x0 := CE.out.1.c (j := 0) rfl
          have x1 := CE.out.1.c (j := 1) rfl
          have x2 := CE.out.1.c (j := 2) rfl
          have x3 := CE.out.1.c (j := 3) rfl
          have x4 := CE.out.1.c (j := 4) rfl
          have x5 := CE.out.1.c (j := 5) rfl
          have y0 := CE.out.2.1.c (j := 0) rfl
          have y1 := CE.out.2.1.c (j := 1) rfl
          refine hK _ _ ?_
          go_wp2
          refine bodyPost_ret (v := .tuple #[.agg #[.int .i64 1, .string NM, .slice PA zs.length cp, .bool false, .string ⟨#[]⟩, .int .i64 (f : Int)], .int .i64 (i : Int), fltV a c]) (by simp only [results, Tryz.results28]; simp [results, go_sem, e6', e7', e8', x0, x1, x2, x3, x4, x5, y0, y1]) hoff.defers ?_
          exact OpPost.fail HX.out.1 HX.out.2 CE.out.2.2
      · obtain ⟨x, m, hxm⟩ : ∃ x m, attrO to (tl s to) = .ok x m := by
          cases hq : attrO to (tl s to) with
          | ok a n => exact ⟨a, n, rfl⟩
          | bad d y => exact absurd (fun a n e => by rw [hq] at e; cases e) hok
          | un => exact absurd (fun a n e => by rw [hq] at e; cases e) hok
        have hml := attrO_le hxm
        rw [tl_length] at hml
        obtain ⟨i2, hi2⟩ : ∃ i2, to + m = i2 := ⟨_, rfl⟩
        have HAT2 : Hid (∀ W : World, Calls Tryz.prog 46 #[.string s, .int .i64 (f : Int), .int .i64 (to : Int)] W fun e w' => Below W.heap.size W w' ∧ e = .returned (.tuple #[.agg #[.string ⟨x.name.toArray⟩, .string ⟨x.value.toArray⟩, .int .i64 (x.at_ : Int)], .int .i64 (i2 : Int), .agg #[.int .i64 0, .int .i64 0]])) := Lib.hid (fun W => (HAT.out W).mono (by
          rintro e w' hAP
          unfold AtPost at hAP
          rw [hxm] at hAP
          obtain ⟨h1, h2⟩ := hAP
          simp only [hi2] at h2
          exact ⟨h1, h2⟩))
        have HJ : Hid (i2 = e1 + (j + (m + wh (tl s i))) ∧ i2 ≤ s.size ∧ i < i2) := Lib.hid ⟨by omega, by omega, by omega⟩
        have HRN2 : Hid (Run stopA stepA e1 (tl s e1) (j + (m + wh (tl s i))) (zs ++ [x]) ∧ (zs ++ [x]).length ≤ j + (m + wh (tl s i))) := Lib.hid ⟨HRun.out.1.on goodA hs0 (by rw [← hi, hTL]; unfold stepA; rw [if_neg hwz, tl_drop, hto, hxm]; rfl), by have := HRun.out.2; simp; omega⟩
        have HZL : Hid (zs.length ≤ 65536) := Lib.hid (by have := HRun.out.2; omega)
        clear h62 h47 HSt hTL hto hwl HO he hi hwz hs0 hok hxm hml hi2 HAT HRun
        go_wp2_with (first
          | (go_at_call 45; ((with_reducible refine (HB1.out _).mono ?_); rintro e w2 ⟨rfl, rfl⟩))
          | (go_at_call 23; ((with_reducible refine (HA62.out _).mono ?_); rintro e w4 ⟨rfl, rfl⟩))
          | (go_at_call 23; ((with_reducible refine (HA47.out _).mono ?_); rintro e w4 ⟨rfl, rfl⟩)))
        refine (HAT2.out _).mono ?_
        rintro e w6 ⟨hb6, rfl⟩
        have hs6 := hb6.size
        have hs9 := HS.out.b9.lt
        have HL : Hid (w.heap.size + 1 + 1 < w6.heap.size) := Lib.hid (by omega)
        have GX9 := Lib.hid (HS.out.b9.below hb6 (by omega))
        have GX6 := Lib.hid (HS.out.b6.below hb6 (by omega))
        have GX8 := Lib.hid (HS.out.b8.below hb6 (by omega))
        have GB := Lib.hid (HS.out.bel.trans (hb6.mono (by omega)))
        have GR := Lib.hid (AR.below HS.out.row hb6)
        clear hs6 hs9 hb6 HS
        go_upto_region 19 with fail
        have sz : (w6.alloc (.cells #[.string ⟨x.name.toArray⟩, .string ⟨x.value.toArray⟩, .int .i64 (x.at_ : Int)] 38)).heap.size = w6.heap.size + 1 := by simp
        have hx10 := (Bx.new w6 38 #[.string ⟨x.name.toArray⟩, .string ⟨x.value.toArray⟩, .int .i64 (x.at_ : Int)]).alloc (.cells #[.int .i64 0, .int .i64 0] 27)
        have hx9 := (GX9.out.alloc (.cells #[.string ⟨x.name.toArray⟩, .string ⟨x.value.toArray⟩, .int .i64 (x.at_ : Int)] 38)).alloc (.cells #[.int .i64 0, .int .i64 0] 27)
        have hx6 := (GX6.out.alloc (.cells #[.string ⟨x.name.toArray⟩, .string ⟨x.value.toArray⟩, .int .i64 (x.at_ : Int)] 38)).alloc (.cells #[.int .i64 0, .int .i64 0] 27)
        have hx8 := (GX8.out.alloc (.cells #[.string ⟨x.name.toArray⟩, .string ⟨x.value.toArray⟩, .int .i64 (x.at_ : Int)] 38)).alloc (.cells #[.int .i64 0, .int .i64 0] 27)
        have hbel := (GB.out.alloc (by have := HL.out; omega) (.cells #[.string ⟨x.name.toArray⟩, .string ⟨x.value.toArray⟩, .int .i64 (x.at_ : Int)] 38)).alloc (by rw [sz]; have := HL.out; omega) (.cells #[.int .i64 0, .int .i64 0] 27)
        have hrow : AR _ _ _ _ := World.ownsRow.alloc (World.ownsRow.alloc GR.out (.cells #[.string ⟨x.name.toArray⟩, .string ⟨x.value.toArray⟩, .int .i64 (x.at_ : Int)] 38)) (.cells #[.int .i64 0, .int .i64 0] 27)
        clear sz GX9 GX6 GX8 GB GR HL
        generalize (w6.alloc (.cells #[.string ⟨x.name.toArray⟩, .string ⟨x.value.toArray⟩, .int .i64 (x.at_ : Int)] 38)).alloc (.cells #[.int .i64 0, .int .i64 0] 27) = W7 at *
        generalize w6.heap.size + 1 = b13 at *
        generalize w6.heap.size = b10 at *
        have k2 := hx9.c (j := 2) rfl
        have l0 := hx10.c (j := 0) rfl
        have l1 := hx10.c (j := 1) rfl
        have l2 := hx10.c (j := 2) rfl
        have hle : w.heap.size + 1 + 1 + 1 ≤ W7.heap.size := hx9.lt
        have H9 := Lib.hid (hx9.alloc (.cells (atC x).toArray 38))
        have H6 := Lib.hid (hx6.alloc (.cells (atC x).toArray 38))
        have H8 := Lib.hid (hx8.alloc (.cells (atC x).toArray 38))
        have HB := Lib.hid (hbel.alloc hbel.size (.cells (atC x).toArray 38))
        have HR : Hid (AR (W7.alloc (.cells (atC x).toArray 38)) (w.heap.size + 1 + 1 + 1) (.slice PA zs.length cp) zs) := Lib.hid (World.ownsRow.alloc hrow _)
        have HLE : Hid (w.heap.size + 1 + 1 + 1 ≤ (W7.alloc (.cells (atC x).toArray 38)).heap.size) := Lib.hid (by simp; omega)
        clear hx10 hx9 hx6 hx8 hbel hrow hle
        go_wp2_with (at_builtin; go_must (refine wpList_append_at rfl (.tmp 89) (.tmp 91) rfl (w.heap.size + 1 + 1 + 1) (.slice PA zs.length cp) zs x W7.heap.size rfl HR.out rfl (heap_at _ _ _ rfl) HZL.out HLE.out ?_); intro A8 c8 w8 hown8 hgrow8; have J9 := Lib.hid (H9.out.grown hgrow8 (HR.out.ne (by omega))); have J6 := Lib.hid (H6.out.grown hgrow8 (HR.out.ne (by omega))); have J8 := Lib.hid (H8.out.grown hgrow8 (HR.out.ne (by omega))); have JB := Lib.hid (HB.out.grown hgrow8 HB.out.size (fun k hk => by have := (HR.out.lt k hk).1; omega)); have JR := Lib.hid hown8; clear hown8 hgrow8; have j2 := J9.out.c (j := 2) rfl; have jz := J9.out.fz 2)
        go_roundg (s.size - i2)
        case measure => have := HJ.out; omega
        case rel => exact ⟨j + (m + wh (tl s i)), zs ++ [x], .slice A8 (zs.length + 1) c8, by rw [← HJ.out.1], by have := HJ.out; omega, by have := HJ.out; omega, HRN2.out,
          ⟨J9.out.set 2 _, J6.out.other (by omega) 2 _, J8.out.other (by omega) 2 _, Below.setCell JB.out (p := ⟨w.heap.size + 1 + 1, 2, none⟩) (Nat.le_succ_of_le (Nat.le_succ _)) _, JR.out.setAt J9.out (by decide) 2 _⟩⟩
/-- the document's opening does what startO says -/
theorem dOpening_any (s : ByteArray) (f : Nat) (hk : f + 1 ≤ s.size) (hs : s.size ≤ 65536) (h0 : ∀ b ∈ s.data.toList, b ≠ 0) (w : World) :
    Calls Tryz.prog 28 #[.string s, .int .i64 (f : Int)] w (OpPost w (f + 1) f (startO f (f + 1) (tl s (f + 1)))) := by
  by_cases h1 : nm (tl s (f + 1)) = 0
  · exact dOpening_f1 s f hk hs h1 w
  · exact dOpening_go s f _ _ hk hs rfl h1 rfl h0 w
end Go.Proofs.YtbokcihlbpeagaaGreatDoor
