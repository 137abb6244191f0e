/-
  What is proved: contract of the document's closing. Conditions: those in each statement.
-/
import Derived.Test.YtbokcihlbpeagaaGreatDoorNu
namespace Go.Proofs.YtbokcihlbpeagaaGreatDoor
open Go.RowKit

/-- what closing answers -/
def CfPost (w : World) (k f : Nat) (o : Out Mk) (e : Ending) (w' : World) : Prop := Below w.heap.size w w' ∧ match o with
  | .ok m n => e = .returned (.tuple #[.agg #[.int .i64 (m.kind : Int), .string ⟨m.name.toArray⟩, .slice none 0 0, .bool m.empty, .string ⟨m.text.toArray⟩, .int .i64 (m.at_ : Int)], .int .i64 ((k + n : Nat) : Int), noF])
  | o => ∃ x c, failO k f o = some (x, c) ∧ c ≠ 0 ∧ ∃ (kd : Int) (nme : ByteArray) (A : Option Addr) (ln cp : Nat) (b : Bool) (t : ByteArray) (z i : Int), e = .returned (.tuple #[.agg #[.int .i64 kd, .string nme, .slice A ln cp, .bool b, .string t, .int .i64 z], .int .i64 i, fltV x c])
theorem CfPost.fail {w w' : World} {k f : Nat} {o : Out Mk} {x : Nat} {c : Int} {kd : Int} {nme : ByteArray} {A : Option Addr} {ln cp : Nat} {b : Bool} {t : ByteArray} {z i : Int} (ho : failO k f o = some (x, c)) (hc : c ≠ 0) (hb : Below w.heap.size w w') :
    CfPost w k f o (.returned (.tuple #[.agg #[.int .i64 kd, .string nme, .slice A ln cp, .bool b, .string t, .int .i64 z], .int .i64 i, fltV x c])) w' := by
  refine ⟨hb, ?_⟩
  cases o with
  | ok a m => cases ho
  | bad d y => exact ⟨x, c, ho, hc, kd, nme, A, ln, cp, b, t, z, i, rfl⟩
  | un => exact ⟨x, c, ho, hc, kd, nme, A, ln, cp, b, t, z, i, rfl⟩
set_option maxHeartbeats 4000000 in
set_option maxRecDepth 100000 in
theorem dClosing_f1 (s : ByteArray) (f : Nat) (hk : f + 2 ≤ s.size) (hs : s.size ≤ 65536) (h1 : nm (tl s (f + 2)) = 0) (w : World) :
    Calls Tryz.prog 27 #[.string s, .int .i64 (f : Int)] w (CfPost w (f + 2) f (endO f (tl s (f + 2)))) := by
  have hw2 : wrap64 ((f : Int) + 2) = (f : Int) + 2 := Go.IntWalk.wrap64_in _ (by omega)
  have HN := Lib.hid (dName_any s (f + 2) (f + 2) (by omega) hk hs)
  rw [show ((f + 2 : Nat) : Int) = (f : Int) + 2 by push_cast; rfl] at HN
  obtain ⟨a, ha⟩ : ∃ a, a = msA s f (f + 2) := ⟨_, rfl⟩
  obtain ⟨c, hc⟩ : ∃ c, c = msC s (f + 2) := ⟨_, rfl⟩
  have HMS := Lib.hid (dMiss_x s f (f + 2) a c ha.symm hc.symm)
  rw [show ((f + 2 : Nat) : Int) = (f : Int) + 2 by push_cast; rfl] at HMS
  have HX : Hid (failO (f + 2) f (endO f (tl s (f + 2))) = some (a, c) ∧ c ≠ 0) := Lib.hid (by
    rw [ha, hc]
    refine ⟨?_, msC_ne s (f + 2)⟩
    unfold endO
    refine failO_seq1 ?_
    unfold nameO
    rw [if_pos h1, failO_wrong (β := Unit)]
    exact ms_wrong hk)
  clear ha hc h1
  go_enter Tryz.func27, Tryz.ntmps27
  go_wp2_with fail
  obtain ⟨W3, hW3⟩ : ∃ W3, W3 = ((w.alloc (.cells #[.int .i64 0, .string ⟨#[]⟩, .slice none 0 0, .bool false, .string ⟨#[]⟩, .int .i64 0] 36)).alloc (.cells #[.int .i64 0, .int .i64 0] 27)).alloc (.cells #[.int .i64 2, .string ⟨#[]⟩, .slice none 0 0, .bool false, .string ⟨#[]⟩, .int .i64 (f : Int)] 36) := ⟨_, rfl⟩
  obtain ⟨g6, g8, g9, gb, gs⟩ := boxes3 w _ _ _ _ _ _ W3 hW3
  rw [← hW3]
  clear hW3
  refine (HN.out _).mono ?_
  rintro e w1 ⟨rfl, hb1⟩
  have hx6 := g6.below hb1 (by omega)
  have hx8 := g8.below hb1 (by omega)
  have hx9 := g9.below hb1 (by omega)
  have hbel : Below w.heap.size w w1 := gb.trans (hb1.mono (by omega))
  have ne69 : w.heap.size ≠ w.heap.size + 1 + 1 := by omega
  have ne89 : w.heap.size + 1 ≠ w.heap.size + 1 + 1 := by omega
  have ne86 : w.heap.size + 1 ≠ w.heap.size := by omega
  have lo6 : w.heap.size ≤ w.heap.size := Nat.le_refl _
  have lo8 : w.heap.size ≤ w.heap.size + 1 := by omega
  clear g6 g8 g9 gb gs hb1
  go_wp2_with fail
  obtain ⟨V, hV⟩ : ∃ V, V = w1.drew := ⟨_, rfl⟩
  have v9 : Bx 36 V (w.heap.size + 1 + 1) #[.int .i64 2, .string ⟨#[]⟩, .slice none 0 0, .bool false, .string ⟨#[]⟩, .int .i64 (f : Int)] := by rw [hV]; exact hx9
  have v6 : Bx 36 V w.heap.size #[.int .i64 0, .string ⟨#[]⟩, .slice none 0 0, .bool false, .string ⟨#[]⟩, .int .i64 0] := by rw [hV]; exact hx6
  have v8 : Bx 27 V (w.heap.size + 1) #[.int .i64 0, .int .i64 0] := by rw [hV]; exact hx8
  have vb : Below w.heap.size w V := by rw [hV]; exact Below.drew hbel
  obtain ⟨A, hA⟩ : ∃ A, A = V.alloc (.cells #[.int .i64 (a : Int), .int .i64 c] 27) := ⟨_, rfl⟩
  have a9 : Bx 36 A (w.heap.size + 1 + 1) #[.int .i64 2, .string ⟨#[]⟩, .slice none 0 0, .bool false, .string ⟨#[]⟩, .int .i64 (f : Int)] := by rw [hA]; exact v9.alloc _
  have a6 : Bx 36 A w.heap.size #[.int .i64 0, .string ⟨#[]⟩, .slice none 0 0, .bool false, .string ⟨#[]⟩, .int .i64 0] := by rw [hA]; exact v6.alloc _
  have a8 : Bx 27 A (w.heap.size + 1) #[.int .i64 0, .int .i64 0] := by rw [hA]; exact v8.alloc _
  have ab : Below w.heap.size w A := by rw [hA]; exact vb.alloc vb.size _
  obtain ⟨B, hB⟩ : ∃ B, B = ((((((A.setCell ⟨w.heap.size, 0, none⟩ (.int .i64 2)).setCell ⟨w.heap.size, 1, none⟩ (.string ⟨#[]⟩)).setCell ⟨w.heap.size, 2, none⟩ (.slice none 0 0)).setCell ⟨w.heap.size, 3, none⟩ (.bool false)).setCell ⟨w.heap.size, 4, none⟩ (.string ⟨#[]⟩)).setCell ⟨w.heap.size, 5, none⟩ (.int .i64 (f : Int))) := ⟨_, rfl⟩
  have b9 : Bx 36 B (w.heap.size + 1 + 1) #[.int .i64 2, .string ⟨#[]⟩, .slice none 0 0, .bool false, .string ⟨#[]⟩, .int .i64 (f : Int)] := by rw [hB]; exact ((((((a9.other ne69 _ _).other ne69 _ _).other ne69 _ _).other ne69 _ _).other ne69 _ _).other ne69 _ _)
  have b6 : Bx 36 B w.heap.size #[.int .i64 2, .string ⟨#[]⟩, .slice none 0 0, .bool false, .string ⟨#[]⟩, .int .i64 (f : Int)] := by rw [hB]; exact ((((((a6.set 0 (.int .i64 2)).set 1 (.string ⟨#[]⟩)).set 2 (.slice none 0 0)).set 3 (.bool false)).set 4 (.string ⟨#[]⟩)).set 5 (.int .i64 (f : Int)))
  have b8 : Bx 27 B (w.heap.size + 1) #[.int .i64 0, .int .i64 0] := by rw [hB]; exact ((((((a8.other (Ne.symm ne86) _ _).other (Ne.symm ne86) _ _).other (Ne.symm ne86) _ _).other (Ne.symm ne86) _ _).other (Ne.symm ne86) _ _).other (Ne.symm ne86) _ _)
  have bb : Below w.heap.size w B := by rw [hB]; exact (Below.setCell (Below.setCell (Below.setCell (Below.setCell (Below.setCell (Below.setCell ab (p := ⟨w.heap.size, 0, none⟩) lo6 _) (p := ⟨w.heap.size, 1, none⟩) lo6 _) (p := ⟨w.heap.size, 2, none⟩) lo6 _) (p := ⟨w.heap.size, 3, none⟩) lo6 _) (p := ⟨w.heap.size, 4, none⟩) lo6 _) (p := ⟨w.heap.size, 5, none⟩) lo6 _)
  obtain ⟨C, hC⟩ : ∃ C, C = ((B.setCell ⟨(w.heap.size + 1), 0, none⟩ (.int .i64 (a : Int))).setCell ⟨(w.heap.size + 1), 1, none⟩ (.int .i64 c)) := ⟨_, rfl⟩
  have c9 : Bx 36 C (w.heap.size + 1 + 1) #[.int .i64 2, .string ⟨#[]⟩, .slice none 0 0, .bool false, .string ⟨#[]⟩, .int .i64 (f : Int)] := by rw [hC]; exact ((b9.other ne89 _ _).other ne89 _ _)
  have c6 : Bx 36 C w.heap.size #[.int .i64 2, .string ⟨#[]⟩, .slice none 0 0, .bool false, .string ⟨#[]⟩, .int .i64 (f : Int)] := by rw [hC]; exact ((b6.other ne86 _ _).other ne86 _ _)
  have c8 : Bx 27 C (w.heap.size + 1) #[.int .i64 (a : Int), .int .i64 c] := by rw [hC]; exact ((b8.set 0 (.int .i64 (a : Int))).set 1 (.int .i64 c))
  have cb : Below w.heap.size w C := by rw [hC]; exact (Below.setCell (Below.setCell bb (p := ⟨(w.heap.size + 1), 0, none⟩) lo8 _) (p := ⟨(w.heap.size + 1), 1, none⟩) lo8 _)
  have X0 := Lib.hid (fun ls => rtW_cell (i := 5) (j := 6) (k := 8) (ls := ls) (p := ⟨(w.heap.size + 1 + 1), 0, none⟩) (v9.c (j := 0) rfl) (a9.c (j := 0) rfl) (b9.c (j := 0) rfl) (c9.c (j := 0) rfl))
  have X1 := Lib.hid (fun ls => rtW_cell (i := 5) (j := 6) (k := 8) (ls := ls) (p := ⟨(w.heap.size + 1 + 1), 1, none⟩) (v9.c (j := 1) rfl) (a9.c (j := 1) rfl) (b9.c (j := 1) rfl) (c9.c (j := 1) rfl))
  have X2 := Lib.hid (fun ls => rtW_cell (i := 5) (j := 6) (k := 8) (ls := ls) (p := ⟨(w.heap.size + 1 + 1), 2, none⟩) (v9.c (j := 2) rfl) (a9.c (j := 2) rfl) (b9.c (j := 2) rfl) (c9.c (j := 2) rfl))
  have X3 := Lib.hid (fun ls => rtW_cell (i := 5) (j := 6) (k := 8) (ls := ls) (p := ⟨(w.heap.size + 1 + 1), 3, none⟩) (v9.c (j := 3) rfl) (a9.c (j := 3) rfl) (b9.c (j := 3) rfl) (c9.c (j := 3) rfl))
  have X4 := Lib.hid (fun ls => rtW_cell (i := 5) (j := 6) (k := 8) (ls := ls) (p := ⟨(w.heap.size + 1 + 1), 4, none⟩) (v9.c (j := 4) rfl) (a9.c (j := 4) rfl) (b9.c (j := 4) rfl) (c9.c (j := 4) rfl))
  have X5 := Lib.hid (fun ls => rtW_cell (i := 5) (j := 6) (k := 8) (ls := ls) (p := ⟨(w.heap.size + 1 + 1), 5, none⟩) (v9.c (j := 5) rfl) (a9.c (j := 5) rfl) (b9.c (j := 5) rfl) (c9.c (j := 5) rfl))
  have A6 := Lib.hid a6
  have B8 := Lib.hid b8
  have CE := Lib.hid (And.intro c6 (And.intro c8 cb))
  have HV := Lib.hid hV
  have HA := Lib.hid hA
  have HB := Lib.hid hB
  have HC := Lib.hid hC
  clear v9 v6 v8 vb a9 a6 a8 ab b9 b6 b8 bb c9 c6 c8 cb hV hA hB hC hx9 hx6 hx8 hbel
  refine wp_region_chain (fun n => (#[.agg #[.int .i64 2, .string ⟨#[]⟩, .slice none 0 0, .bool false, .string ⟨#[]⟩, .int .i64 (f : Int)], .int .i64 ((f : Int) + 2), .string s, .int .i64 (f : Int), .int .i64 ((f : Int) + 2), .agg #[.int .i64 (a : Int), .int .i64 c], undef, .int .i64 ((f : Int) + 2), undef] : Array Value).getD n undef) (rtW 5 6 8 V A B C) (by kernel_rfl) (by kernel_rfl) (by rw [HV.out]; rfl) ?_ ?_
  · refine ⟨?_, ?_, ?_, ?_, ?_, ?_, ?_, ?_, ?_, trivial⟩
    · intro a0 ls hcl hi hd hoff hf
      left
      refine ⟨rfl, ?_⟩
      have e0 : a0.tmps.getD 7 undef = .pointer (some ⟨(w.heap.size + 1 + 1), 0, none⟩) := hoff.slot 7 (no_dst (by kernel_rfl))
      have k0 := X0.out ls
      have k1 := X1.out ls
      have k2 := X2.out ls
      have k3 := X3.out ls
      have k4 := X4.out ls
      have k5 := X5.out ls
      go_simp
      all_goals first | exact ⟨rfl, rfl⟩ | exact rfl
    · intro a0 ls hcl hi hd hoff hf
      left
      refine ⟨rfl, ?_⟩
      have e0 : a0.tmps.getD 8 undef = .int .i64 ((f : Int) + 2) := hoff.slot 8 (no_dst (by kernel_rfl))
      go_simp
      all_goals first | exact ⟨rfl, rfl⟩ | exact rfl
    · intro a0 ls hcl hi hd hoff hf
      left
      refine ⟨rfl, ?_⟩
      have e0 : a0.tmps.getD 0 undef = .string s := hoff.slot 0 (no_dst (by kernel_rfl))
      go_simp
      all_goals first | exact ⟨rfl, rfl⟩ | exact rfl
    · intro a0 ls hcl hi hd hoff hf
      left
      refine ⟨rfl, ?_⟩
      have e0 : a0.tmps.getD 1 undef = .int .i64 (f : Int) := hoff.slot 1 (no_dst (by kernel_rfl))
      go_simp
      all_goals first | exact ⟨rfl, rfl⟩ | exact rfl
    · intro a0 ls hcl hi hd hoff hf
      left
      refine ⟨rfl, ?_⟩
      have e0 : a0.tmps.getD 8 undef = .int .i64 ((f : Int) + 2) := hoff.slot 8 (no_dst (by kernel_rfl))
      go_simp
      all_goals first | exact ⟨rfl, rfl⟩ | exact rfl
    · intro a0 ls hcl hi hd hoff hf
      left
      refine ⟨rfl, ?_⟩
      have e0 : a0.tmps.getD 21 undef = .string s := hf 2 _ (hd 2 rfl) rfl
      have e1 : a0.tmps.getD 22 undef = .int .i64 (f : Int) := hf 3 _ (hd 3 rfl) rfl
      have e2 : a0.tmps.getD 23 undef = .int .i64 ((f : Int) + 2) := hf 4 _ (hd 4 rfl) rfl
      have h6 : ls 6 = false := hcl.no hi rfl rfl
      have h8 : ls 8 = false := hcl.no (hcl.no h6 (i := 7) rfl rfl) rfl rfl
      have hw : rtW 5 6 8 V A B C (updB ls 5) = A := rtW_i h8 h6 rfl
      rw [hw, rtW_0 h8 h6 hi]
      have hAA := HA.out
      go_simp
      refine (HMS.out V).mono ?_
      rintro e' w' ⟨rfl, rfl⟩
      first | exact ⟨rfl, rfl⟩ | exact ⟨rfl, hAA.symm⟩ | exact ⟨_, rfl, rfl, hAA.symm⟩
    · intro a0 ls hcl hi hd hoff hf
      left
      refine ⟨rfl, ?_⟩
      have e0 : a0.tmps.getD 4 undef = .pointer (some ⟨w.heap.size, 0, none⟩) := hoff.slot 4 (no_dst (by kernel_rfl))
      have e1 : a0.tmps.getD 19 undef = .agg #[.int .i64 2, .string ⟨#[]⟩, .slice none 0 0, .bool false, .string ⟨#[]⟩, .int .i64 (f : Int)] := hf 0 _ (hd 0 rfl) rfl
      have h8 : ls 8 = false := hcl.no (hcl.no hi (i := 7) rfl rfl) rfl rfl
      have hw : rtW 5 6 8 V A B C (updB ls 6) = B := rtW_j h8 rfl
      rw [hw, rtW_i h8 hi (hd 5 rfl)]
      have k0 := A6.out.c (j := 0) rfl
      have z0 := A6.out.fz 0
      have k1 := A6.out.c (j := 1) rfl
      have z1 := A6.out.fz 1
      have k2 := A6.out.c (j := 2) rfl
      have z2 := A6.out.fz 2
      have k3 := A6.out.c (j := 3) rfl
      have z3 := A6.out.fz 3
      have k4 := A6.out.c (j := 4) rfl
      have z4 := A6.out.fz 4
      have k5 := A6.out.c (j := 5) rfl
      have z5 := A6.out.fz 5
      have hBB := HB.out
      go_simp
      all_goals first | exact ⟨rfl, hBB.symm⟩ | exact hBB.symm
    · intro a0 ls hcl hi hd hoff hf
      left
      refine ⟨rfl, ?_⟩
      have e0 : a0.tmps.getD 20 undef = .int .i64 ((f : Int) + 2) := hf 1 _ (hd 1 rfl) rfl
      go_simp
      all_goals first | exact ⟨rfl, rfl⟩ | exact rfl
    · intro a0 ls hcl hi hd hoff hf
      left
      refine ⟨rfl, ?_⟩
      have e0 : a0.tmps.getD 6 undef = .pointer (some ⟨(w.heap.size + 1), 0, none⟩) := hoff.slot 6 (no_dst (by kernel_rfl))
      have e1 : a0.tmps.getD 24 undef = .agg #[.int .i64 (a : Int), .int .i64 c] := hf 5 _ (hd 5 rfl) rfl
      have hw : rtW 5 6 8 V A B C (updB ls 8) = C := rtW_k rfl
      have h6 : ls 6 = true := hcl 7 _ rfl (hd 7 rfl) 6 rfl
      rw [hw, rtW_j hi h6]
      have k0 := B8.out.c (j := 0) rfl
      have z0 := B8.out.fz 0
      have k1 := B8.out.c (j := 1) rfl
      have z1 := B8.out.fz 1
      have hCC := HC.out
      go_simp
      all_goals first | exact ⟨rfl, hCC.symm⟩ | exact hCC.symm
  · intro a0 ls hl hoff hf
    rw [rtW_k (hl 8 (by decide))]
    rename_i hK
    have e7 : a0.tmps.getD 5 undef = .int .i64 ((f : Int) + 2) := hf 7 _ rfl
    have e6 : a0.tmps.getD 4 undef = .pointer (some ⟨w.heap.size, 0, none⟩) := hoff.slot 4 (no_dst (by kernel_rfl))
    have e8 : a0.tmps.getD 6 undef = .pointer (some ⟨w.heap.size + 1, 0, none⟩) := hoff.slot 6 (no_dst (by kernel_rfl))
    have e6' : a0.tmps[4]?.getD undef = .pointer (some ⟨w.heap.size, 0, none⟩) := by simpa using e6
    have e7' : a0.tmps[5]?.getD undef = .int .i64 ((f : Int) + 2) := by simpa using e7
    have e8' : a0.tmps[6]?.getD undef = .pointer (some ⟨w.heap.size + 1, 0, none⟩) := by simpa using e8
    have x0 := CE.out.1.c (j := 0) rfl
    have x1 := CE.out.1.c (j := 1) rfl
    have x2 := CE.out.1.c (j := 2) rfl
    have x3 := CE.out.1.c (j := 3) rfl
    have x4 := CE.out.1.c (j := 4) rfl
    have x5 := CE.out.1.c (j := 5) rfl
    have y0 := CE.out.2.1.c (j := 0) rfl
    have y1 := CE.out.2.1.c (j := 1) rfl
    refine hK _ _ ?_
    go_wp2
    refine bodyPost_ret (v := .tuple #[.agg #[.int .i64 2, .string ⟨#[]⟩, .slice none 0 0, .bool false, .string ⟨#[]⟩, .int .i64 (f : Int)], .int .i64 ((f : Int) + 2), fltV a c]) (by simp only [results, Tryz.results27]; simp [results, go_sem, e6', e7', e8', x0, x1, x2, x3, x4, x5, y0, y1]) hoff.defers ?_
    exact CfPost.fail HX.out.1 HX.out.2 CE.out.2.2
set_option maxHeartbeats 4000000 in
set_option maxRecDepth 100000 in
theorem dClosing_f2 (s : ByteArray) (f e1 i2 : Nat) (NM : ByteArray) (hk : f + 2 ≤ s.size) (hs : s.size ≤ 65536) (he : f + 2 + nm (tl s (f + 2)) = e1) (hn : nm (tl s (f + 2)) ≠ 0) (h2 : e1 + wh (tl s e1) = i2) (hNM : s.extract (f + 2) e1 = NM) (h62 : hd (tl s i2) ≠ 62) (w : World) :
    Calls Tryz.prog 27 #[.string s, .int .i64 (f : Int)] w (CfPost w (f + 2) f (endO f (tl s (f + 2)))) := by
  have hw2 : wrap64 ((f : Int) + 2) = (f : Int) + 2 := Go.IntWalk.wrap64_in _ (by omega)
  have hnl := nm_le (tl s (f + 2))
  rw [tl_length] at hnl
  have hke : f + 2 < e1 := by omega
  have hes : e1 ≤ s.size := by omega
  have hwl := wh_le (tl s e1)
  rw [tl_length] at hwl
  have hi2 : i2 ≤ s.size := by omega
  have HN := Lib.hid (dName_any s (f + 2) e1 he hk hs)
  rw [show ((f + 2 : Nat) : Int) = (f : Int) + 2 by push_cast; rfl] at HN
  have HB1 := Lib.hid (dBlanks_any s e1 i2 h2 hes hs)
  have hnek : ((e1 : Int) == (f : Int) + 2) = false := beq_eq_false_iff_ne.2 (by omega)
  have hez0 : (0 : Int) ≤ (f : Int) + 2 := by omega
  have hez : (f : Int) + 2 ≤ (e1 : Int) := by omega
  have hez2 : (e1 : Int) ≤ (s.size : Int) := by omega
  have hez3 : ((f : Int) + 2).toNat = f + 2 := by omega
  have hO2 : endO f (tl s (f + 2)) = (((mustO 62 (tl s i2)).map fun _ => (⟨2, (tl s (f + 2)).take (nm (tl s (f + 2))), [], false, [], f⟩ : Mk)).on (wh (tl s e1))).on (nm (tl s (f + 2))) := by
    unfold endO
    rw [seq_is (show nameO (tl s (f + 2)) = .ok ((tl s (f + 2)).take (nm (tl s (f + 2)))) (nm (tl s (f + 2))) by unfold nameO; rw [if_neg hn]), tl_drop, he]
    unfold spO; rw [seq_is rfl, tl_drop, h2]
  have HA62 := Lib.hid (dAt_is s ⟨#[62]⟩ i2 false (by show false = Lib.hasPrefix (tl s i2) [62]; rw [at_hd _ _ _ (by decide)]; exact (decide_eq_false h62).symm) hi2 (by omega) (by show 1 ≤ 140737488355328; omega))
  obtain ⟨a, ha⟩ : ∃ a, a = msA s f i2 := ⟨_, rfl⟩
  obtain ⟨c, hc⟩ : ∃ c, c = msC s i2 := ⟨_, rfl⟩
  have HMS := Lib.hid (dMiss_x s f i2 a c ha.symm hc.symm)
  have HX : Hid (failO (f + 2) f (endO f (tl s (f + 2))) = some (a, c) ∧ c ≠ 0) := Lib.hid (by
    rw [ha, hc]
    refine ⟨?_, msC_ne s i2⟩
    rw [hO2, failO_on, failO_on, failO_map, show f + 2 + nm (tl s (f + 2)) + wh (tl s e1) = i2 by omega]
    unfold mustO
    rw [if_neg h62]
    exact ms_wrong hi2)
  clear ha hc h62 hO2 he hn h2 hwl hnl
  go_enter Tryz.func27, Tryz.ntmps27
  go_wp2_with fail
  obtain ⟨W3, hW3⟩ : ∃ W3, W3 = ((w.alloc (.cells #[.int .i64 0, .string ⟨#[]⟩, .slice none 0 0, .bool false, .string ⟨#[]⟩, .int .i64 0] 36)).alloc (.cells #[.int .i64 0, .int .i64 0] 27)).alloc (.cells #[.int .i64 2, .string ⟨#[]⟩, .slice none 0 0, .bool false, .string ⟨#[]⟩, .int .i64 (f : Int)] 36) := ⟨_, rfl⟩
  obtain ⟨g6, g8, g9, gb, gs⟩ := boxes3 w _ _ _ _ _ _ W3 hW3
  rw [← hW3]
  clear hW3
  refine (HN.out _).mono ?_
  rintro e w1 ⟨rfl, hb1⟩
  have o6 := g6.below hb1 (by omega)
  have o8 := g8.below hb1 (by omega)
  have o9 := g9.below hb1 (by omega)
  have obel : Below w.heap.size w w1 := gb.trans (hb1.mono (by omega))
  have ne69 : w.heap.size ≠ w.heap.size + 1 + 1 := by omega
  have ne89 : w.heap.size + 1 ≠ w.heap.size + 1 + 1 := by omega
  have ne86 : w.heap.size + 1 ≠ w.heap.size := by omega
  have lo6 : w.heap.size ≤ w.heap.size := Nat.le_refl _
  have lo8 : w.heap.size ≤ w.heap.size + 1 := by omega
  have oc := o9.c (j := 1) rfl
  have oz := o9.fz 1
  have HX9 := Lib.hid (o9.set 1 (.string NM))
  have HX6 := Lib.hid (o6.other (r := w.heap.size + 1 + 1) (by omega) 1 (.string NM))
  have HX8 := Lib.hid (o8.other (r := w.heap.size + 1 + 1) (by omega) 1 (.string NM))
  have HBE : Hid (Below w.heap.size w (w1.setCell ⟨w.heap.size + 1 + 1, 1, none⟩ (.string NM))) := Lib.hid (Below.setCell obel (p := ⟨w.heap.size + 1 + 1, 1, none⟩) (by show w.heap.size ≤ w.heap.size + 1 + 1; omega) _)
  clear g6 g8 g9 gb gs hb1 o6 o8 o9 obel
  go_wp2_with (first
    | (go_at_call 45; ((with_reducible refine (HB1.out _).mono ?_); rintro e w2 ⟨rfl, rfl⟩))
    | (go_at_call 23; ((with_reducible refine (HA62.out _).mono ?_); rintro e w4 ⟨rfl, rfl⟩)))
  have hx9 : Bx 36 (w1.setCell ⟨w.heap.size + 1 + 1, 1, none⟩ (.string NM)) (w.heap.size + 1 + 1) #[.int .i64 2, .string NM, .slice none 0 0, .bool false, .string ⟨#[]⟩, .int .i64 (f : Int)] := HX9.out
  have hx6 := HX6.out
  have hx8 := HX8.out
  have hbel := HBE.out
  generalize w1.setCell ⟨w.heap.size + 1 + 1, 1, none⟩ (.string NM) = W5 at *
  clear HX9 HX6 HX8 HBE oc oz
  obtain ⟨V, hV⟩ : ∃ V, V = W5.drew := ⟨_, rfl⟩
  have v9 : Bx 36 V (w.heap.size + 1 + 1) #[.int .i64 2, .string NM, .slice none 0 0, .bool false, .string ⟨#[]⟩, .int .i64 (f : Int)] := by rw [hV]; exact hx9
  have v6 : Bx 36 V w.heap.size #[.int .i64 0, .string ⟨#[]⟩, .slice none 0 0, .bool false, .string ⟨#[]⟩, .int .i64 0] := by rw [hV]; exact hx6
  have v8 : Bx 27 V (w.heap.size + 1) #[.int .i64 0, .int .i64 0] := by rw [hV]; exact hx8
  have vb : Below w.heap.size w V := by rw [hV]; exact Below.drew hbel
  obtain ⟨A, hA⟩ : ∃ A, A = V.alloc (.cells #[.int .i64 (a : Int), .int .i64 c] 27) := ⟨_, rfl⟩
  have a9 : Bx 36 A (w.heap.size + 1 + 1) #[.int .i64 2, .string NM, .slice none 0 0, .bool false, .string ⟨#[]⟩, .int .i64 (f : Int)] := by rw [hA]; exact v9.alloc _
  have a6 : Bx 36 A w.heap.size #[.int .i64 0, .string ⟨#[]⟩, .slice none 0 0, .bool false, .string ⟨#[]⟩, .int .i64 0] := by rw [hA]; exact v6.alloc _
  have a8 : Bx 27 A (w.heap.size + 1) #[.int .i64 0, .int .i64 0] := by rw [hA]; exact v8.alloc _
  have ab : Below w.heap.size w A := by rw [hA]; exact vb.alloc vb.size _
  obtain ⟨B, hB⟩ : ∃ B, B = ((((((A.setCell ⟨w.heap.size, 0, none⟩ (.int .i64 2)).setCell ⟨w.heap.size, 1, none⟩ (.string NM)).setCell ⟨w.heap.size, 2, none⟩ (.slice none 0 0)).setCell ⟨w.heap.size, 3, none⟩ (.bool false)).setCell ⟨w.heap.size, 4, none⟩ (.string ⟨#[]⟩)).setCell ⟨w.heap.size, 5, none⟩ (.int .i64 (f : Int))) := ⟨_, rfl⟩
  have b9 : Bx 36 B (w.heap.size + 1 + 1) #[.int .i64 2, .string NM, .slice none 0 0, .bool false, .string ⟨#[]⟩, .int .i64 (f : Int)] := by rw [hB]; exact ((((((a9.other ne69 _ _).other ne69 _ _).other ne69 _ _).other ne69 _ _).other ne69 _ _).other ne69 _ _)
  have b6 : Bx 36 B w.heap.size #[.int .i64 2, .string NM, .slice none 0 0, .bool false, .string ⟨#[]⟩, .int .i64 (f : Int)] := by rw [hB]; exact ((((((a6.set 0 (.int .i64 2)).set 1 (.string NM)).set 2 (.slice none 0 0)).set 3 (.bool false)).set 4 (.string ⟨#[]⟩)).set 5 (.int .i64 (f : Int)))
  have b8 : Bx 27 B (w.heap.size + 1) #[.int .i64 0, .int .i64 0] := by rw [hB]; exact ((((((a8.other (Ne.symm ne86) _ _).other (Ne.symm ne86) _ _).other (Ne.symm ne86) _ _).other (Ne.symm ne86) _ _).other (Ne.symm ne86) _ _).other (Ne.symm ne86) _ _)
  have bb : Below w.heap.size w B := by rw [hB]; exact (Below.setCell (Below.setCell (Below.setCell (Below.setCell (Below.setCell (Below.setCell ab (p := ⟨w.heap.size, 0, none⟩) lo6 _) (p := ⟨w.heap.size, 1, none⟩) lo6 _) (p := ⟨w.heap.size, 2, none⟩) lo6 _) (p := ⟨w.heap.size, 3, none⟩) lo6 _) (p := ⟨w.heap.size, 4, none⟩) lo6 _) (p := ⟨w.heap.size, 5, none⟩) lo6 _)
  obtain ⟨C, hC⟩ : ∃ C, C = ((B.setCell ⟨(w.heap.size + 1), 0, none⟩ (.int .i64 (a : Int))).setCell ⟨(w.heap.size + 1), 1, none⟩ (.int .i64 c)) := ⟨_, rfl⟩
  have c9 : Bx 36 C (w.heap.size + 1 + 1) #[.int .i64 2, .string NM, .slice none 0 0, .bool false, .string ⟨#[]⟩, .int .i64 (f : Int)] := by rw [hC]; exact ((b9.other ne89 _ _).other ne89 _ _)
  have c6 : Bx 36 C w.heap.size #[.int .i64 2, .string NM, .slice none 0 0, .bool false, .string ⟨#[]⟩, .int .i64 (f : Int)] := by rw [hC]; exact ((b6.other ne86 _ _).other ne86 _ _)
  have c8 : Bx 27 C (w.heap.size + 1) #[.int .i64 (a : Int), .int .i64 c] := by rw [hC]; exact ((b8.set 0 (.int .i64 (a : Int))).set 1 (.int .i64 c))
  have cb : Below w.heap.size w C := by rw [hC]; exact (Below.setCell (Below.setCell bb (p := ⟨(w.heap.size + 1), 0, none⟩) lo8 _) (p := ⟨(w.heap.size + 1), 1, none⟩) lo8 _)
  have X0 := Lib.hid (fun ls => rtW_cell (i := 5) (j := 6) (k := 8) (ls := ls) (p := ⟨(w.heap.size + 1 + 1), 0, none⟩) (v9.c (j := 0) rfl) (a9.c (j := 0) rfl) (b9.c (j := 0) rfl) (c9.c (j := 0) rfl))
  have X1 := Lib.hid (fun ls => rtW_cell (i := 5) (j := 6) (k := 8) (ls := ls) (p := ⟨(w.heap.size + 1 + 1), 1, none⟩) (v9.c (j := 1) rfl) (a9.c (j := 1) rfl) (b9.c (j := 1) rfl) (c9.c (j := 1) rfl))
  have X2 := Lib.hid (fun ls => rtW_cell (i := 5) (j := 6) (k := 8) (ls := ls) (p := ⟨(w.heap.size + 1 + 1), 2, none⟩) (v9.c (j := 2) rfl) (a9.c (j := 2) rfl) (b9.c (j := 2) rfl) (c9.c (j := 2) rfl))
  have X3 := Lib.hid (fun ls => rtW_cell (i := 5) (j := 6) (k := 8) (ls := ls) (p := ⟨(w.heap.size + 1 + 1), 3, none⟩) (v9.c (j := 3) rfl) (a9.c (j := 3) rfl) (b9.c (j := 3) rfl) (c9.c (j := 3) rfl))
  have X4 := Lib.hid (fun ls => rtW_cell (i := 5) (j := 6) (k := 8) (ls := ls) (p := ⟨(w.heap.size + 1 + 1), 4, none⟩) (v9.c (j := 4) rfl) (a9.c (j := 4) rfl) (b9.c (j := 4) rfl) (c9.c (j := 4) rfl))
  have X5 := Lib.hid (fun ls => rtW_cell (i := 5) (j := 6) (k := 8) (ls := ls) (p := ⟨(w.heap.size + 1 + 1), 5, none⟩) (v9.c (j := 5) rfl) (a9.c (j := 5) rfl) (b9.c (j := 5) rfl) (c9.c (j := 5) rfl))
  have A6 := Lib.hid a6
  have B8 := Lib.hid b8
  have CE := Lib.hid (And.intro c6 (And.intro c8 cb))
  have HV := Lib.hid hV
  have HA := Lib.hid hA
  have HB := Lib.hid hB
  have HC := Lib.hid hC
  clear v9 v6 v8 vb a9 a6 a8 ab b9 b6 b8 bb c9 c6 c8 cb hV hA hB hC hx9 hx6 hx8 hbel
  refine wp_region_chain (fun n => (#[.agg #[.int .i64 2, .string NM, .slice none 0 0, .bool false, .string ⟨#[]⟩, .int .i64 (f : Int)], .int .i64 (i2 : Int), .string s, .int .i64 (f : Int), .int .i64 (i2 : Int), .agg #[.int .i64 (a : Int), .int .i64 c], undef, .int .i64 (i2 : Int), undef] : Array Value).getD n undef) (rtW 5 6 8 V A B C) (by kernel_rfl) (by kernel_rfl) (by rw [HV.out]; rfl) ?_ ?_
  · refine ⟨?_, ?_, ?_, ?_, ?_, ?_, ?_, ?_, ?_, trivial⟩
    · intro a0 ls hcl hi hd hoff hf
      left
      refine ⟨rfl, ?_⟩
      have e0 : a0.tmps.getD 7 undef = .pointer (some ⟨(w.heap.size + 1 + 1), 0, none⟩) := hoff.slot 7 (no_dst (by kernel_rfl))
      have k0 := X0.out ls
      have k1 := X1.out ls
      have k2 := X2.out ls
      have k3 := X3.out ls
      have k4 := X4.out ls
      have k5 := X5.out ls
      go_simp
      all_goals first | exact ⟨rfl, rfl⟩ | exact rfl
    · intro a0 ls hcl hi hd hoff hf
      left
      refine ⟨rfl, ?_⟩
      have e0 : a0.tmps.getD 8 undef = .int .i64 (i2 : Int) := hoff.slot 8 (no_dst (by kernel_rfl))
      go_simp
      all_goals first | exact ⟨rfl, rfl⟩ | exact rfl
    · intro a0 ls hcl hi hd hoff hf
      left
      refine ⟨rfl, ?_⟩
      have e0 : a0.tmps.getD 0 undef = .string s := hoff.slot 0 (no_dst (by kernel_rfl))
      go_simp
      all_goals first | exact ⟨rfl, rfl⟩ | exact rfl
    · intro a0 ls hcl hi hd hoff hf
      left
      refine ⟨rfl, ?_⟩
      have e0 : a0.tmps.getD 1 undef = .int .i64 (f : Int) := hoff.slot 1 (no_dst (by kernel_rfl))
      go_simp
      all_goals first | exact ⟨rfl, rfl⟩ | exact rfl
    · intro a0 ls hcl hi hd hoff hf
      left
      refine ⟨rfl, ?_⟩
      have e0 : a0.tmps.getD 8 undef = .int .i64 (i2 : Int) := hoff.slot 8 (no_dst (by kernel_rfl))
      go_simp
      all_goals first | exact ⟨rfl, rfl⟩ | exact rfl
    · intro a0 ls hcl hi hd hoff hf
      left
      refine ⟨rfl, ?_⟩
      have e0 : a0.tmps.getD 40 undef = .string s := hf 2 _ (hd 2 rfl) rfl
      have e1 : a0.tmps.getD 41 undef = .int .i64 (f : Int) := hf 3 _ (hd 3 rfl) rfl
      have e2 : a0.tmps.getD 42 undef = .int .i64 (i2 : Int) := hf 4 _ (hd 4 rfl) rfl
      have h6 : ls 6 = false := hcl.no hi rfl rfl
      have h8 : ls 8 = false := hcl.no (hcl.no h6 (i := 7) rfl rfl) rfl rfl
      have hw : rtW 5 6 8 V A B C (updB ls 5) = A := rtW_i h8 h6 rfl
      rw [hw, rtW_0 h8 h6 hi]
      have hAA := HA.out
      go_simp
      refine (HMS.out V).mono ?_
      rintro e' w' ⟨rfl, rfl⟩
      first | exact ⟨rfl, rfl⟩ | exact ⟨rfl, hAA.symm⟩ | exact ⟨_, rfl, rfl, hAA.symm⟩
    · intro a0 ls hcl hi hd hoff hf
      left
      refine ⟨rfl, ?_⟩
      have e0 : a0.tmps.getD 4 undef = .pointer (some ⟨w.heap.size, 0, none⟩) := hoff.slot 4 (no_dst (by kernel_rfl))
      have e1 : a0.tmps.getD 38 undef = .agg #[.int .i64 2, .string NM, .slice none 0 0, .bool false, .string ⟨#[]⟩, .int .i64 (f : Int)] := hf 0 _ (hd 0 rfl) rfl
      have h8 : ls 8 = false := hcl.no (hcl.no hi (i := 7) rfl rfl) rfl rfl
      have hw : rtW 5 6 8 V A B C (updB ls 6) = B := rtW_j h8 rfl
      rw [hw, rtW_i h8 hi (hd 5 rfl)]
      have k0 := A6.out.c (j := 0) rfl
      have z0 := A6.out.fz 0
      have k1 := A6.out.c (j := 1) rfl
      have z1 := A6.out.fz 1
      have k2 := A6.out.c (j := 2) rfl
      have z2 := A6.out.fz 2
      have k3 := A6.out.c (j := 3) rfl
      have z3 := A6.out.fz 3
      have k4 := A6.out.c (j := 4) rfl
      have z4 := A6.out.fz 4
      have k5 := A6.out.c (j := 5) rfl
      have z5 := A6.out.fz 5
      have hBB := HB.out
      go_simp
      all_goals first | exact ⟨rfl, hBB.symm⟩ | exact hBB.symm
    · intro a0 ls hcl hi hd hoff hf
      left
      refine ⟨rfl, ?_⟩
      have e0 : a0.tmps.getD 39 undef = .int .i64 (i2 : Int) := hf 1 _ (hd 1 rfl) rfl
      go_simp
      all_goals first | exact ⟨rfl, rfl⟩ | exact rfl
    · intro a0 ls hcl hi hd hoff hf
      left
      refine ⟨rfl, ?_⟩
      have e0 : a0.tmps.getD 6 undef = .pointer (some ⟨(w.heap.size + 1), 0, none⟩) := hoff.slot 6 (no_dst (by kernel_rfl))
      have e1 : a0.tmps.getD 43 undef = .agg #[.int .i64 (a : Int), .int .i64 c] := hf 5 _ (hd 5 rfl) rfl
      have hw : rtW 5 6 8 V A B C (updB ls 8) = C := rtW_k rfl
      have h6 : ls 6 = true := hcl 7 _ rfl (hd 7 rfl) 6 rfl
      rw [hw, rtW_j hi h6]
      have k0 := B8.out.c (j := 0) rfl
      have z0 := B8.out.fz 0
      have k1 := B8.out.c (j := 1) rfl
      have z1 := B8.out.fz 1
      have hCC := HC.out
      go_simp
      all_goals first | exact ⟨rfl, hCC.symm⟩ | exact hCC.symm
  · intro a0 ls hl hoff hf
    rw [rtW_k (hl 8 (by decide))]
    rename_i hK
    have e7 : a0.tmps.getD 5 undef = .int .i64 (i2 : Int) := hf 7 _ rfl
    have e6 : a0.tmps.getD 4 undef = .pointer (some ⟨w.heap.size, 0, none⟩) := hoff.slot 4 (no_dst (by kernel_rfl))
    have e8 : a0.tmps.getD 6 undef = .pointer (some ⟨w.heap.size + 1, 0, none⟩) := hoff.slot 6 (no_dst (by kernel_rfl))
    have e6' : a0.tmps[4]?.getD undef = .pointer (some ⟨w.heap.size, 0, none⟩) := by simpa using e6
    have e7' : a0.tmps[5]?.getD undef = .int .i64 (i2 : Int) := by simpa using e7
    have e8' : a0.tmps[6]?.getD undef = .pointer (some ⟨w.heap.size + 1, 0, none⟩) := by simpa using e8
    have x0 := CE.out.1.c (j := 0) rfl
    have x1 := CE.out.1.c (j := 1) rfl
    have x2 := CE.out.1.c (j := 2) rfl
    have x3 := CE.out.1.c (j := 3) rfl
    have x4 := CE.out.1.c (j := 4) rfl
    have x5 := CE.out.1.c (j := 5) rfl
    have y0 := CE.out.2.1.c (j := 0) rfl
    have y1 := CE.out.2.1.c (j := 1) rfl
    refine hK _ _ ?_
    go_wp2
    refine bodyPost_ret (v := .tuple #[.agg #[.int .i64 2, .string NM, .slice none 0 0, .bool false, .string ⟨#[]⟩, .int .i64 (f : Int)], .int .i64 (i2 : Int), fltV a c]) (by simp only [results, Tryz.results27]; simp [results, go_sem, e6', e7', e8', x0, x1, x2, x3, x4, x5, y0, y1]) hoff.defers ?_
    exact CfPost.fail HX.out.1 HX.out.2 CE.out.2.2
set_option maxHeartbeats 4000000 in
set_option maxRecDepth 100000 in
theorem dClosing_ok (s : ByteArray) (f e1 i2 : Nat) (NM : ByteArray) (hk : f + 2 ≤ s.size) (hs : s.size ≤ 65536) (he : f + 2 + nm (tl s (f + 2)) = e1) (hn : nm (tl s (f + 2)) ≠ 0) (h2 : e1 + wh (tl s e1) = i2) (hNM : s.extract (f + 2) e1 = NM) (h62 : hd (tl s i2) = 62) (w : World) :
    Calls Tryz.prog 27 #[.string s, .int .i64 (f : Int)] w (CfPost w (f + 2) f (endO f (tl s (f + 2)))) := by
  have hw2 : wrap64 ((f : Int) + 2) = (f : Int) + 2 := Go.IntWalk.wrap64_in _ (by omega)
  have hnl := nm_le (tl s (f + 2))
  rw [tl_length] at hnl
  have hke : f + 2 < e1 := by omega
  have hes : e1 ≤ s.size := by omega
  have hwl := wh_le (tl s e1)
  rw [tl_length] at hwl
  have hi2 : i2 ≤ s.size := by omega
  have HN := Lib.hid (dName_any s (f + 2) e1 he hk hs)
  rw [show ((f + 2 : Nat) : Int) = (f : Int) + 2 by push_cast; rfl] at HN
  have HB1 := Lib.hid (dBlanks_any s e1 i2 h2 hes hs)
  have hnek : ((e1 : Int) == (f : Int) + 2) = false := beq_eq_false_iff_ne.2 (by omega)
  have hez0 : (0 : Int) ≤ (f : Int) + 2 := by omega
  have hez : (f : Int) + 2 ≤ (e1 : Int) := by omega
  have hez2 : (e1 : Int) ≤ (s.size : Int) := by omega
  have hez3 : ((f : Int) + 2).toNat = f + 2 := by omega
  have hO2 : endO f (tl s (f + 2)) = (((mustO 62 (tl s i2)).map fun _ => (⟨2, (tl s (f + 2)).take (nm (tl s (f + 2))), [], false, [], f⟩ : Mk)).on (wh (tl s e1))).on (nm (tl s (f + 2))) := by
    unfold endO
    rw [seq_is (show nameO (tl s (f + 2)) = .ok ((tl s (f + 2)).take (nm (tl s (f + 2)))) (nm (tl s (f + 2))) by unfold nameO; rw [if_neg hn]), tl_drop, he]
    unfold spO; rw [seq_is rfl, tl_drop, h2]
  have HA62 := Lib.hid (dAt_is s ⟨#[62]⟩ i2 true (by show true = Lib.hasPrefix (tl s i2) [62]; rw [at_hd _ _ _ (by decide)]; exact (decide_eq_true h62).symm) hi2 (by omega) (by show 1 ≤ 140737488355328; omega))
  have hlt2 : i2 < s.size := by
    have := hd_ne (l := tl s i2) (by rw [h62]; decide)
    rw [tl_length] at this; omega
  have hw21 : wrap64 ((i2 : Int) + 1) = (i2 : Int) + 1 := ok_wrap hlt2 hs
  have HX : Hid (∃ N, endO f (tl s (f + 2)) = .ok ⟨2, (tl s (f + 2)).take (nm (tl s (f + 2))), [], false, [], f⟩ N ∧ f + 2 + N = i2 + 1 ∧ (⟨((tl s (f + 2)).take (nm (tl s (f + 2)))).toArray⟩ : ByteArray) = NM) := Lib.hid ⟨1 + wh (tl s e1) + nm (tl s (f + 2)), by rw [hO2]; unfold mustO; rw [if_pos h62]; rfl, by omega, by rw [← hNM, ext_part, ok_sub he]⟩
  clear h62 hO2 he hn h2 hwl hnl
  go_enter Tryz.func27, Tryz.ntmps27
  go_wp2_with fail
  obtain ⟨W3, hW3⟩ : ∃ W3, W3 = ((w.alloc (.cells #[.int .i64 0, .string ⟨#[]⟩, .slice none 0 0, .bool false, .string ⟨#[]⟩, .int .i64 0] 36)).alloc (.cells #[.int .i64 0, .int .i64 0] 27)).alloc (.cells #[.int .i64 2, .string ⟨#[]⟩, .slice none 0 0, .bool false, .string ⟨#[]⟩, .int .i64 (f : Int)] 36) := ⟨_, rfl⟩
  obtain ⟨g6, g8, g9, gb, gs⟩ := boxes3 w _ _ _ _ _ _ W3 hW3
  rw [← hW3]
  clear hW3
  refine (HN.out _).mono ?_
  rintro e w1 ⟨rfl, hb1⟩
  have o6 := g6.below hb1 (by omega)
  have o8 := g8.below hb1 (by omega)
  have o9 := g9.below hb1 (by omega)
  have obel : Below w.heap.size w w1 := gb.trans (hb1.mono (by omega))
  have ne69 : w.heap.size ≠ w.heap.size + 1 + 1 := by omega
  have ne89 : w.heap.size + 1 ≠ w.heap.size + 1 + 1 := by omega
  have ne86 : w.heap.size + 1 ≠ w.heap.size := by omega
  have lo6 : w.heap.size ≤ w.heap.size := Nat.le_refl _
  have lo8 : w.heap.size ≤ w.heap.size + 1 := by omega
  have oc := o9.c (j := 1) rfl
  have oz := o9.fz 1
  have HX9 := Lib.hid (o9.set 1 (.string NM))
  have HX6 := Lib.hid (o6.other (r := w.heap.size + 1 + 1) (by omega) 1 (.string NM))
  have HX8 := Lib.hid (o8.other (r := w.heap.size + 1 + 1) (by omega) 1 (.string NM))
  have HBE : Hid (Below w.heap.size w (w1.setCell ⟨w.heap.size + 1 + 1, 1, none⟩ (.string NM))) := Lib.hid (Below.setCell obel (p := ⟨w.heap.size + 1 + 1, 1, none⟩) (by show w.heap.size ≤ w.heap.size + 1 + 1; omega) _)
  clear g6 g8 g9 gb gs hb1 o6 o8 o9 obel
  go_wp2_with (first
    | (go_at_call 45; ((with_reducible refine (HB1.out _).mono ?_); rintro e w2 ⟨rfl, rfl⟩)))
  have hx9 : Bx 36 (w1.setCell ⟨w.heap.size + 1 + 1, 1, none⟩ (.string NM)) (w.heap.size + 1 + 1) #[.int .i64 2, .string NM, .slice none 0 0, .bool false, .string ⟨#[]⟩, .int .i64 (f : Int)] := HX9.out
  have hx6 := HX6.out
  have hx8 := HX8.out
  have hbel := HBE.out
  generalize w1.setCell ⟨w.heap.size + 1 + 1, 1, none⟩ (.string NM) = W5 at *
  clear HX9 HX6 HX8 HBE oc oz
  have xo0 := hx9.c (j := 0) rfl
  have xo1 := hx9.c (j := 1) rfl
  have xo2 := hx9.c (j := 2) rfl
  have xo3 := hx9.c (j := 3) rfl
  have xo4 := hx9.c (j := 4) rfl
  have xo5 := hx9.c (j := 5) rfl
  have yo0 := hx6.c (j := 0) rfl
  have yo1 := hx6.c (j := 1) rfl
  have yo2 := hx6.c (j := 2) rfl
  have yo3 := hx6.c (j := 3) rfl
  have yo4 := hx6.c (j := 4) rfl
  have yo5 := hx6.c (j := 5) rfl
  have yf0 := hx6.fz 0
  have yf1 := hx6.fz 1
  have yf2 := hx6.fz 2
  have yf3 := hx6.fz 3
  have yf4 := hx6.fz 4
  have yf5 := hx6.fz 5
  have zo0 := hx8.c (j := 0) rfl
  have zo1 := hx8.c (j := 1) rfl
  have zf0 := hx8.fz 0
  have zf1 := hx8.fz 1
  have HB6 := Lib.hid hx6
  have HB8 := Lib.hid hx8
  have HBL := Lib.hid hbel
  clear hx9 hx6 hx8 hbel
  go_wp2_with (first
    | (go_at_call 23; ((with_reducible refine (HA62.out _).mono ?_); rintro e w4 ⟨rfl, rfl⟩)))
  have f6 := ((((((((HB6.out.set 0 (.int .i64 2)).set 1 (.string NM)).set 2 (.slice none 0 0)).set 3 (.bool false)).set 4 (.string ⟨#[]⟩)).set 5 (.int .i64 (f : Int))).other ne86 0 (.int .i64 0)).other ne86 1 (.int .i64 0))
  have f8 := ((((((((HB8.out.other (Ne.symm ne86) 0 (.int .i64 2)).other (Ne.symm ne86) 1 (.string NM)).other (Ne.symm ne86) 2 (.slice none 0 0)).other (Ne.symm ne86) 3 (.bool false)).other (Ne.symm ne86) 4 (.string ⟨#[]⟩)).other (Ne.symm ne86) 5 (.int .i64 (f : Int))).set 0 (.int .i64 0)).set 1 (.int .i64 0))
  have fb := (Below.setCell (Below.setCell (Below.setCell (Below.setCell (Below.setCell (Below.setCell (Below.setCell (Below.setCell HBL.out (p := ⟨w.heap.size, 0, none⟩) lo6 (.int .i64 2)) (p := ⟨w.heap.size, 1, none⟩) lo6 (.string NM)) (p := ⟨w.heap.size, 2, none⟩) lo6 (.slice none 0 0)) (p := ⟨w.heap.size, 3, none⟩) lo6 (.bool false)) (p := ⟨w.heap.size, 4, none⟩) lo6 (.string ⟨#[]⟩)) (p := ⟨w.heap.size, 5, none⟩) lo6 (.int .i64 (f : Int))) (p := ⟨w.heap.size + 1, 0, none⟩) lo8 (.int .i64 0)) (p := ⟨w.heap.size + 1, 1, none⟩) lo8 (.int .i64 0))
  have x0 := f6.c (j := 0) rfl
  have x1 := f6.c (j := 1) rfl
  have x2 := f6.c (j := 2) rfl
  have x3 := f6.c (j := 3) rfl
  have x4 := f6.c (j := 4) rfl
  have x5 := f6.c (j := 5) rfl
  have y0 := f8.c (j := 0) rfl
  have y1 := f8.c (j := 1) rfl
  clear f6 f8
  refine bodyPost_ret (v := .tuple #[.agg #[.int .i64 2, .string NM, .slice none 0 0, .bool false, .string ⟨#[]⟩, .int .i64 (f : Int)], .int .i64 ((i2 : Int) + 1), noF]) (by simp only [results, Tryz.results27]; simp [results, go_sem, x0, x1, x2, x3, x4, x5, y0, y1]) rfl ?_
  obtain ⟨N, hN, hN2, hN3⟩ := HX.out
  refine ⟨fb, ?_⟩
  rw [hN]
  show _ = Ending.returned (.tuple #[.agg #[_, .string ⟨((tl s (f + 2)).take (nm (tl s (f + 2)))).toArray⟩, _, _, _, _], .int .i64 ((f + 2 + N : Nat) : Int), noF])
  rw [hN2, hN3, Int.natCast_succ]
  rfl
/-- the document's closing does what endO says -/
theorem dClosing_any (s : ByteArray) (f : Nat) (hk : f + 2 ≤ s.size) (hs : s.size ≤ 65536) (w : World) :
    Calls Tryz.prog 27 #[.string s, .int .i64 (f : Int)] w (CfPost w (f + 2) f (endO f (tl s (f + 2)))) := by
  by_cases h1 : nm (tl s (f + 2)) = 0
  · exact dClosing_f1 s f hk hs h1 w
  by_cases h62 : hd (tl s (f + 2 + nm (tl s (f + 2)) + wh (tl s (f + 2 + nm (tl s (f + 2)))))) = 62
  · exact dClosing_ok s f _ _ _ hk hs rfl h1 rfl rfl h62 w
  · exact dClosing_f2 s f _ _ _ hk hs rfl h1 rfl rfl h62 w
end Go.Proofs.YtbokcihlbpeagaaGreatDoor
