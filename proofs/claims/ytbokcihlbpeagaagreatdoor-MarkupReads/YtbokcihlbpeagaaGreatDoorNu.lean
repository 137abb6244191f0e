/-
  What is proved: contract of the document's attr. Conditions: those in each statement.
-/
import Derived.Test.YtbokcihlbpeagaaGreatDoorNe
import Derived.Test.YtbokcihlbpeagaaGreatDoorNm
import Derived.Test.YtbokcihlbpeagaaGreatDoorRw
namespace Go.Proofs.YtbokcihlbpeagaaGreatDoor
open Go.RowKit

/-- a block of this type with these cells -/
def Bx (t : TypeId) (w : World) (q : Nat) (cs : Array Value) : Prop := w.heap[q]? = some (.cells cs t (0, 0))
section
variable {t : TypeId} {w w' : World} {q : Nat} {cs : Array Value}
theorem Bx.c (h : Bx t w q cs) {j : Nat} {v : Value} (hj : cs[j]? = some v) : w.cell? ⟨q, j, none⟩ = some v := by rw [Lib.cell_of_heap h]; exact hj
theorem Bx.fz (h : Bx t w q cs) (j : Nat) : w.frozen? ⟨q, j, none⟩ = false := Lib.frozen_of_heap h j
theorem Bx.set (h : Bx t w q cs) (j : Nat) (v : Value) : Bx t (w.setCell ⟨q, j, none⟩ v) q (cs.setIfInBounds j v) := heap_setCell_at h j v
theorem Bx.other (h : Bx t w q cs) {r : Nat} (hr : r ≠ q) (j : Nat) (v : Value) : Bx t (w.setCell ⟨r, j, none⟩ v) q cs := by
  unfold Bx; rw [Below.heap_setCell _ _ _ _ (by exact Ne.symm hr)]; exact h
theorem Bx.below {B : Nat} (h : Bx t w q cs) (hb : Below B w w') (hB : q < B) : Bx t w' q cs := by
  unfold Bx; rw [hb.block q hB]; exact h
theorem Bx.lt (h : Bx t w q cs) : q < w.heap.size := (Array.getElem?_eq_some_iff.1 h).1
theorem Bx.alloc (h : Bx t w q cs) (o : Obj) : Bx t (w.alloc o) q cs := by
  have := h.lt
  unfold Bx at *; rw [Below.heap_alloc _ _ _ this]; exact h
theorem Bx.new (w : World) (t : TypeId) (cs : Array Value) : Bx t (w.alloc (.cells cs t)) w.heap.size cs := heap_at _ _ _ rfl
end
/-- worlds of a line that calls, stores, and stores again -/
def rtW (i j k : Nat) (V A B C : World) (ls : Nat → Bool) : World := if ls k = true then C else if ls j = true then B else if ls i = true then A else V
section
variable {i j k : Nat} {V A B C : World} {ls : Nat → Bool}
theorem rtW_k (h : ls k = true) : rtW i j k V A B C ls = C := by unfold rtW; rw [if_pos h]
theorem rtW_j (h : ls k = false) (h5 : ls j = true) : rtW i j k V A B C ls = B := by unfold rtW; rw [if_neg (by simp [h]), if_pos h5]
theorem rtW_i (h : ls k = false) (h5 : ls j = false) (h4 : ls i = true) : rtW i j k V A B C ls = A := by unfold rtW; rw [if_neg (by simp [h]), if_neg (by simp [h5]), if_pos h4]
theorem rtW_0 (h : ls k = false) (h5 : ls j = false) (h4 : ls i = false) : rtW i j k V A B C ls = V := by unfold rtW; rw [if_neg (by simp [h]), if_neg (by simp [h5]), if_neg (by simp [h4])]
theorem rtW_n (h : ls k = false) (h5 : ls j = false) (hA : A = V) : rtW i j k V A B C ls = A := by
  unfold rtW; rw [if_neg (by simp [h]), if_neg (by simp [h5])]
  split
  · rfl
  · exact hA.symm
theorem rtW_cell {p : Addr} {v : Value} (h0 : V.cell? p = some v) (h1 : A.cell? p = some v) (h2 : B.cell? p = some v) (h3 : C.cell? p = some v) : (rtW i j k V A B C ls).cell? p = some v := by
  unfold rtW
  split
  · exact h3
  · split
    · exact h2
    · split
      · exact h1
      · exact h0
end
def msA (s : ByteArray) (f k : Nat) : Nat := if s.size ≤ k then f else k
def msC (s : ByteArray) (k : Nat) : Int := if s.size ≤ k then 84 else 82
theorem ms_wrong {s : ByteArray} {f k : Nat} (hk : k ≤ s.size) : failO k f (wrongO (α := Unit) (tl s k)) = some (msA s f k, msC s k) := by
  unfold wrongO msA msC
  by_cases h : k = s.size
  · rw [if_pos ((tl_nil hk).2 h), if_pos (by omega), if_pos (by omega)]; rfl
  · rw [if_neg (fun e => h ((tl_nil hk).1 e)), if_neg (by omega), if_neg (by omega)]; rfl
theorem msC_ne (s : ByteArray) (k : Nat) : msC s k ≠ 0 := by unfold msC; split <;> decide
set_option maxRecDepth 100000 in
theorem dMiss_x (s : ByteArray) (f k a : Nat) (c : Int) (ha : msA s f k = a) (hc : msC s k = c) (w : World) :
    Calls Tryz.prog 44 #[.string s, .int .i64 (f : Int), .int .i64 (k : Int)] w fun e w' => e = .returned (.agg #[.int .i64 (a : Int), .int .i64 c]) ∧ w' = w.alloc (.cells #[.int .i64 (a : Int), .int .i64 c] 27) := by
  by_cases h : s.size ≤ k
  · have hz : (s.size : Int) ≤ (k : Int) := by omega
    obtain rfl : f = a := by rw [← ha]; unfold msA; rw [if_pos h]
    obtain rfl : (84 : Int) = c := by rw [← hc]; unfold msC; rw [if_pos h]
    have hn : FB (w.alloc (.cells #[.int .i64 (f : Int), .int .i64 84] 27)) w.heap.size (.int .i64 (f : Int)) (.int .i64 84) := heap_at _ _ _ rfl
    have y0 := hn.c0
    have y1 := hn.c1
    clear hn ha hc
    go_enter Tryz.func44, Tryz.ntmps44
    go_wp2
    refine bodyPost_ret (v := fltV f 84) (by simp only [results, Tryz.results44]; simp [results, go_sem, y0, y1]) rfl ?_
    exact ⟨rfl, rfl⟩
  · have hz : ¬ (s.size : Int) ≤ (k : Int) := by omega
    obtain rfl : k = a := by rw [← ha]; unfold msA; rw [if_neg h]
    obtain rfl : (82 : Int) = c := by rw [← hc]; unfold msC; rw [if_neg h]
    have hn : FB (w.alloc (.cells #[.int .i64 (k : Int), .int .i64 82] 27)) w.heap.size (.int .i64 (k : Int)) (.int .i64 82) := heap_at _ _ _ rfl
    have y0 := hn.c0
    have y1 := hn.c1
    clear hn ha hc
    go_enter Tryz.func44, Tryz.ntmps44
    go_wp2
    refine bodyPost_ret (v := fltV k 82) (by simp only [results, Tryz.results44]; simp [results, go_sem, y0, y1]) rfl ?_
    exact ⟨rfl, rfl⟩
theorem boxes3 (w : World) (t1 t2 t3 : TypeId) (c1 c2 c3 : Array Value) (W : World) (hW : W = ((w.alloc (.cells c1 t1)).alloc (.cells c2 t2)).alloc (.cells c3 t3)) :
    Bx t1 W w.heap.size c1 ∧ Bx t2 W (w.heap.size + 1) c2 ∧ Bx t3 W (w.heap.size + 1 + 1) c3 ∧ Below w.heap.size w W ∧ W.heap.size = w.heap.size + 1 + 1 + 1 := by
  subst hW
  have h1 := Bx.new w t1 c1
  have h2 := Bx.new (w.alloc (.cells c1 t1)) t2 c2
  have h3 := Bx.new ((w.alloc (.cells c1 t1)).alloc (.cells c2 t2)) t3 c3
  have s1 : (w.alloc (.cells c1 t1)).heap.size = w.heap.size + 1 := by simp
  have s2 : ((w.alloc (.cells c1 t1)).alloc (.cells c2 t2)).heap.size = w.heap.size + 1 + 1 := by simp
  rw [s1] at h2
  rw [s2] at h3
  refine ⟨(h1.alloc _).alloc _, h2.alloc _, h3, (((Below.refl _ _).alloc (Nat.le_refl _) _).alloc (by simp) _).alloc (by simp; omega) _, by simp⟩
/-- what attr answers -/
def AtPost (w : World) (k f : Nat) (o : Out At3) (e : Ending) (w' : World) : Prop := Below w.heap.size w w' ∧ match o with
  | .ok a n => e = .returned (.tuple #[attV a, .int .i64 ((k + n : Nat) : Int), noF])
  | o => ∃ x c, failO k f o = some (x, c) ∧ c ≠ 0 ∧ ∃ n v z i, e = .returned (.tuple #[.agg #[.string n, .string v, .int .i64 z], .int .i64 i, fltV x c])
theorem AtPost.fail {w w' : World} {k f : Nat} {o : Out At3} {x : Nat} {c : Int} {n v : ByteArray} {z i : Int} (ho : failO k f o = some (x, c)) (hc : c ≠ 0) (hb : Below w.heap.size w w') :
    AtPost w k f o (.returned (.tuple #[.agg #[.string n, .string v, .int .i64 z], .int .i64 i, fltV x c])) w' := by
  refine ⟨hb, ?_⟩
  cases o with
  | ok a m => cases ho
  | bad d y => exact ⟨x, c, ho, hc, n, v, z, i, rfl⟩
  | un => exact ⟨x, c, ho, hc, n, v, z, i, rfl⟩
set_option maxHeartbeats 4000000 in
set_option maxRecDepth 100000 in
theorem dAttr_f1 (s : ByteArray) (f k : Nat) (hk : k ≤ s.size) (hs : s.size ≤ 65536) (h1 : nm (tl s k) = 0) (w : World) :
    Calls Tryz.prog 46 #[.string s, .int .i64 (f : Int), .int .i64 (k : Int)] w (AtPost w k f (attrO k (tl s k))) := by
  have HN := Lib.hid (dName_any s k k (by omega) hk hs)
  obtain ⟨a, ha⟩ : ∃ a, a = msA s f k := ⟨_, rfl⟩
  obtain ⟨c, hc⟩ : ∃ c, c = msC s k := ⟨_, rfl⟩
  have HMS := Lib.hid (dMiss_x s f k a c ha.symm hc.symm)
  have HX : Hid (failO k f (attrO k (tl s k)) = some (a, c) ∧ c ≠ 0) := Lib.hid (by
    rw [ha, hc]
    refine ⟨?_, msC_ne s k⟩
    unfold attrO
    refine failO_seq1 ?_
    unfold nameO
    rw [if_pos h1, failO_wrong (β := Unit)]
    exact ms_wrong hk)
  clear ha hc h1
  go_enter Tryz.func46, Tryz.ntmps46
  go_wp2_with fail
  obtain ⟨W3, hW3⟩ : ∃ W3, W3 = ((w.alloc (.cells #[.string ⟨#[]⟩, .string ⟨#[]⟩, .int .i64 0] 38)).alloc (.cells #[.int .i64 0, .int .i64 0] 27)).alloc (.cells #[.string ⟨#[]⟩, .string ⟨#[]⟩, .int .i64 (k : Int)] 38) := ⟨_, rfl⟩
  obtain ⟨g6, g8, g9, gb, gs⟩ := boxes3 w _ _ _ _ _ _ W3 hW3
  rw [← hW3]
  clear hW3
  refine (HN.out _).mono ?_
  rintro e w1 ⟨rfl, hb1⟩
  have hx6 := g6.below hb1 (by omega)
  have hx8 := g8.below hb1 (by omega)
  have hx9 := g9.below hb1 (by omega)
  have hbel : Below w.heap.size w w1 := gb.trans (hb1.mono (by omega))
  have ne69 : w.heap.size ≠ w.heap.size + 1 + 1 := by omega
  have ne89 : w.heap.size + 1 ≠ w.heap.size + 1 + 1 := by omega
  have ne86 : w.heap.size + 1 ≠ w.heap.size := by omega
  have lo6 : w.heap.size ≤ w.heap.size := Nat.le_refl _
  have lo8 : w.heap.size ≤ w.heap.size + 1 := by omega
  clear g6 g8 g9 gb gs hb1
  go_wp2_with fail
  obtain ⟨V, hV⟩ : ∃ V, V = w1.drew := ⟨_, rfl⟩
  have v9 : Bx 38 V (w.heap.size + 1 + 1) #[.string ⟨#[]⟩, .string ⟨#[]⟩, .int .i64 (k : Int)] := by rw [hV]; exact hx9
  have v6 : Bx 38 V w.heap.size #[.string ⟨#[]⟩, .string ⟨#[]⟩, .int .i64 0] := by rw [hV]; exact hx6
  have v8 : Bx 27 V (w.heap.size + 1) #[.int .i64 0, .int .i64 0] := by rw [hV]; exact hx8
  have vb : Below w.heap.size w V := by rw [hV]; exact Below.drew hbel
  obtain ⟨A, hA⟩ : ∃ A, A = V.alloc (.cells #[.int .i64 (a : Int), .int .i64 c] 27) := ⟨_, rfl⟩
  have a9 : Bx 38 A (w.heap.size + 1 + 1) #[.string ⟨#[]⟩, .string ⟨#[]⟩, .int .i64 (k : Int)] := by rw [hA]; exact v9.alloc _
  have a6 : Bx 38 A w.heap.size #[.string ⟨#[]⟩, .string ⟨#[]⟩, .int .i64 0] := by rw [hA]; exact v6.alloc _
  have a8 : Bx 27 A (w.heap.size + 1) #[.int .i64 0, .int .i64 0] := by rw [hA]; exact v8.alloc _
  have ab : Below w.heap.size w A := by rw [hA]; exact vb.alloc vb.size _
  obtain ⟨B, hB⟩ : ∃ B, B = (((A.setCell ⟨w.heap.size, 0, none⟩ (.string ⟨#[]⟩)).setCell ⟨w.heap.size, 1, none⟩ (.string ⟨#[]⟩)).setCell ⟨w.heap.size, 2, none⟩ (.int .i64 (k : Int))) := ⟨_, rfl⟩
  have b9 : Bx 38 B (w.heap.size + 1 + 1) #[.string ⟨#[]⟩, .string ⟨#[]⟩, .int .i64 (k : Int)] := by rw [hB]; exact (((a9.other ne69 _ _).other ne69 _ _).other ne69 _ _)
  have b6 : Bx 38 B w.heap.size #[.string ⟨#[]⟩, .string ⟨#[]⟩, .int .i64 (k : Int)] := by rw [hB]; exact (((a6.set 0 (.string ⟨#[]⟩)).set 1 (.string ⟨#[]⟩)).set 2 (.int .i64 (k : Int)))
  have b8 : Bx 27 B (w.heap.size + 1) #[.int .i64 0, .int .i64 0] := by rw [hB]; exact (((a8.other (Ne.symm ne86) _ _).other (Ne.symm ne86) _ _).other (Ne.symm ne86) _ _)
  have bb : Below w.heap.size w B := by rw [hB]; exact (Below.setCell (Below.setCell (Below.setCell ab (p := ⟨w.heap.size, 0, none⟩) lo6 _) (p := ⟨w.heap.size, 1, none⟩) lo6 _) (p := ⟨w.heap.size, 2, none⟩) lo6 _)
  obtain ⟨C, hC⟩ : ∃ C, C = ((B.setCell ⟨(w.heap.size + 1), 0, none⟩ (.int .i64 (a : Int))).setCell ⟨(w.heap.size + 1), 1, none⟩ (.int .i64 c)) := ⟨_, rfl⟩
  have c9 : Bx 38 C (w.heap.size + 1 + 1) #[.string ⟨#[]⟩, .string ⟨#[]⟩, .int .i64 (k : Int)] := by rw [hC]; exact ((b9.other ne89 _ _).other ne89 _ _)
  have c6 : Bx 38 C w.heap.size #[.string ⟨#[]⟩, .string ⟨#[]⟩, .int .i64 (k : Int)] := by rw [hC]; exact ((b6.other ne86 _ _).other ne86 _ _)
  have c8 : Bx 27 C (w.heap.size + 1) #[.int .i64 (a : Int), .int .i64 c] := by rw [hC]; exact ((b8.set 0 (.int .i64 (a : Int))).set 1 (.int .i64 c))
  have cb : Below w.heap.size w C := by rw [hC]; exact (Below.setCell (Below.setCell bb (p := ⟨(w.heap.size + 1), 0, none⟩) lo8 _) (p := ⟨(w.heap.size + 1), 1, none⟩) lo8 _)
  have X0 := Lib.hid (fun ls => rtW_cell (i := 5) (j := 6) (k := 8) (ls := ls) (p := ⟨(w.heap.size + 1 + 1), 0, none⟩) (v9.c (j := 0) rfl) (a9.c (j := 0) rfl) (b9.c (j := 0) rfl) (c9.c (j := 0) rfl))
  have X1 := Lib.hid (fun ls => rtW_cell (i := 5) (j := 6) (k := 8) (ls := ls) (p := ⟨(w.heap.size + 1 + 1), 1, none⟩) (v9.c (j := 1) rfl) (a9.c (j := 1) rfl) (b9.c (j := 1) rfl) (c9.c (j := 1) rfl))
  have X2 := Lib.hid (fun ls => rtW_cell (i := 5) (j := 6) (k := 8) (ls := ls) (p := ⟨(w.heap.size + 1 + 1), 2, none⟩) (v9.c (j := 2) rfl) (a9.c (j := 2) rfl) (b9.c (j := 2) rfl) (c9.c (j := 2) rfl))
  have A6 := Lib.hid a6
  have B8 := Lib.hid b8
  have CE := Lib.hid (And.intro c6 (And.intro c8 cb))
  have HV := Lib.hid hV
  have HA := Lib.hid hA
  have HB := Lib.hid hB
  have HC := Lib.hid hC
  clear v9 v6 v8 vb a9 a6 a8 ab b9 b6 b8 bb c9 c6 c8 cb hV hA hB hC hx9 hx6 hx8 hbel
  refine wp_region_chain (fun n => (#[.agg #[.string ⟨#[]⟩, .string ⟨#[]⟩, .int .i64 (k : Int)], .int .i64 (k : Int), .string s, .int .i64 (f : Int), .int .i64 (k : Int), .agg #[.int .i64 (a : Int), .int .i64 c], undef, .int .i64 (k : Int), undef] : Array Value).getD n undef) (rtW 5 6 8 V A B C) (by kernel_rfl) (by kernel_rfl) (by rw [HV.out]; rfl) ?_ ?_
  · refine ⟨?_, ?_, ?_, ?_, ?_, ?_, ?_, ?_, ?_, trivial⟩
    · intro a0 ls hcl hi hd hoff hf
      left
      refine ⟨rfl, ?_⟩
      have e0 : a0.tmps.getD 9 undef = .pointer (some ⟨(w.heap.size + 1 + 1), 0, none⟩) := hoff.slot 9 (no_dst (by kernel_rfl))
      have k0 := X0.out ls
      have k1 := X1.out ls
      have k2 := X2.out ls
      go_simp
      all_goals first | exact ⟨rfl, rfl⟩ | exact rfl
    · intro a0 ls hcl hi hd hoff hf
      left
      refine ⟨rfl, ?_⟩
      have e0 : a0.tmps.getD 2 undef = .int .i64 (k : Int) := hoff.slot 2 (no_dst (by kernel_rfl))
      go_simp
      all_goals first | exact ⟨rfl, rfl⟩ | exact rfl
    · intro a0 ls hcl hi hd hoff hf
      left
      refine ⟨rfl, ?_⟩
      have e0 : a0.tmps.getD 0 undef = .string s := hoff.slot 0 (no_dst (by kernel_rfl))
      go_simp
      all_goals first | exact ⟨rfl, rfl⟩ | exact rfl
    · intro a0 ls hcl hi hd hoff hf
      left
      refine ⟨rfl, ?_⟩
      have e0 : a0.tmps.getD 1 undef = .int .i64 (f : Int) := hoff.slot 1 (no_dst (by kernel_rfl))
      go_simp
      all_goals first | exact ⟨rfl, rfl⟩ | exact rfl
    · intro a0 ls hcl hi hd hoff hf
      left
      refine ⟨rfl, ?_⟩
      have e0 : a0.tmps.getD 2 undef = .int .i64 (k : Int) := hoff.slot 2 (no_dst (by kernel_rfl))
      go_simp
      all_goals first | exact ⟨rfl, rfl⟩ | exact rfl
    · intro a0 ls hcl hi hd hoff hf
      left
      refine ⟨rfl, ?_⟩
      have e0 : a0.tmps.getD 24 undef = .string s := hf 2 _ (hd 2 rfl) rfl
      have e1 : a0.tmps.getD 25 undef = .int .i64 (f : Int) := hf 3 _ (hd 3 rfl) rfl
      have e2 : a0.tmps.getD 26 undef = .int .i64 (k : Int) := hf 4 _ (hd 4 rfl) rfl
      have h6 : ls 6 = false := hcl.no hi rfl rfl
      have h8 : ls 8 = false := hcl.no (hcl.no h6 (i := 7) rfl rfl) rfl rfl
      have hw : rtW 5 6 8 V A B C (updB ls 5) = A := rtW_i h8 h6 rfl
      rw [hw, rtW_0 h8 h6 hi]
      have hAA := HA.out
      go_simp
      refine (HMS.out V).mono ?_
      rintro e' w' ⟨rfl, rfl⟩
      first | exact ⟨rfl, rfl⟩ | exact ⟨rfl, hAA.symm⟩ | exact ⟨_, rfl, rfl, hAA.symm⟩
    · intro a0 ls hcl hi hd hoff hf
      left
      refine ⟨rfl, ?_⟩
      have e0 : a0.tmps.getD 6 undef = .pointer (some ⟨w.heap.size, 0, none⟩) := hoff.slot 6 (no_dst (by kernel_rfl))
      have e1 : a0.tmps.getD 22 undef = .agg #[.string ⟨#[]⟩, .string ⟨#[]⟩, .int .i64 (k : Int)] := hf 0 _ (hd 0 rfl) rfl
      have h8 : ls 8 = false := hcl.no (hcl.no hi (i := 7) rfl rfl) rfl rfl
      have hw : rtW 5 6 8 V A B C (updB ls 6) = B := rtW_j h8 rfl
      rw [hw, rtW_i h8 hi (hd 5 rfl)]
      have k0 := A6.out.c (j := 0) rfl
      have z0 := A6.out.fz 0
      have k1 := A6.out.c (j := 1) rfl
      have z1 := A6.out.fz 1
      have k2 := A6.out.c (j := 2) rfl
      have z2 := A6.out.fz 2
      have hBB := HB.out
      go_simp
      all_goals first | exact ⟨rfl, hBB.symm⟩ | exact hBB.symm
    · intro a0 ls hcl hi hd hoff hf
      left
      refine ⟨rfl, ?_⟩
      have e0 : a0.tmps.getD 23 undef = .int .i64 (k : Int) := hf 1 _ (hd 1 rfl) rfl
      go_simp
      all_goals first | exact ⟨rfl, rfl⟩ | exact rfl
    · intro a0 ls hcl hi hd hoff hf
      left
      refine ⟨rfl, ?_⟩
      have e0 : a0.tmps.getD 8 undef = .pointer (some ⟨(w.heap.size + 1), 0, none⟩) := hoff.slot 8 (no_dst (by kernel_rfl))
      have e1 : a0.tmps.getD 27 undef = .agg #[.int .i64 (a : Int), .int .i64 c] := hf 5 _ (hd 5 rfl) rfl
      have hw : rtW 5 6 8 V A B C (updB ls 8) = C := rtW_k rfl
      have h6 : ls 6 = true := hcl 7 _ rfl (hd 7 rfl) 6 rfl
      rw [hw, rtW_j hi h6]
      have k0 := B8.out.c (j := 0) rfl
      have z0 := B8.out.fz 0
      have k1 := B8.out.c (j := 1) rfl
      have z1 := B8.out.fz 1
      have hCC := HC.out
      go_simp
      all_goals first | exact ⟨rfl, hCC.symm⟩ | exact hCC.symm
  · intro a0 ls hl hoff hf
    rw [rtW_k (hl 8 (by decide))]
    rename_i hK
    have e7 : a0.tmps.getD 7 undef = .int .i64 (k : Int) := hf 7 _ rfl
    have e6 : a0.tmps.getD 6 undef = .pointer (some ⟨w.heap.size, 0, none⟩) := hoff.slot 6 (no_dst (by kernel_rfl))
    have e8 : a0.tmps.getD 8 undef = .pointer (some ⟨w.heap.size + 1, 0, none⟩) := hoff.slot 8 (no_dst (by kernel_rfl))
    have e6' : a0.tmps[6]?.getD undef = .pointer (some ⟨w.heap.size, 0, none⟩) := by simpa using e6
    have e7' : a0.tmps[7]?.getD undef = .int .i64 (k : Int) := by simpa using e7
    have e8' : a0.tmps[8]?.getD undef = .pointer (some ⟨w.heap.size + 1, 0, none⟩) := by simpa using e8
    have x0 := CE.out.1.c (j := 0) rfl
    have x1 := CE.out.1.c (j := 1) rfl
    have x2 := CE.out.1.c (j := 2) rfl
    have y0 := CE.out.2.1.c (j := 0) rfl
    have y1 := CE.out.2.1.c (j := 1) rfl
    refine hK _ _ ?_
    go_wp2
    refine bodyPost_ret (v := .tuple #[.agg #[.string ⟨#[]⟩, .string ⟨#[]⟩, .int .i64 (k : Int)], .int .i64 (k : Int), fltV a c]) (by simp only [results, Tryz.results46]; simp [results, go_sem, e6', e7', e8', x0, x1, x2, y0, y1]) hoff.defers ?_
    exact AtPost.fail HX.out.1 HX.out.2 CE.out.2.2
theorem at_hd (s : ByteArray) (i : Nat) (c : UInt8) (hc : c ≠ 0) : Lib.hasPrefix (tl s i) [c] = decide (hd (tl s i) = c.toNat) := by
  cases h : tl s i with
  | nil =>
    symm
    exact decide_eq_false (fun e => hc (UInt8.toNat_inj.1 (show c.toNat = (0 : UInt8).toNat from e.symm)))
  | cons b t =>
    show ([c] : List UInt8).isPrefixOf (b :: t) = decide (b.toNat = c.toNat)
    simp only [List.isPrefixOf, Bool.and_true]
    rw [Bool.eq_iff_iff, beq_iff_eq, decide_eq_true_iff]
    exact ⟨fun e => by rw [e], fun e => (UInt8.toNat_inj.1 e).symm⟩
set_option maxHeartbeats 4000000 in
set_option maxRecDepth 100000 in
theorem dAttr_f2 (s : ByteArray) (f k e1 i2 : Nat) (NM : ByteArray) (hk : k ≤ s.size) (hs : s.size ≤ 65536) (he : k + nm (tl s k) = e1) (hn : nm (tl s k) ≠ 0) (h2 : e1 + wh (tl s e1) = i2) (hNM : s.extract k e1 = NM) (h61 : hd (tl s i2) ≠ 61) (w : World) :
    Calls Tryz.prog 46 #[.string s, .int .i64 (f : Int), .int .i64 (k : Int)] w (AtPost w k f (attrO k (tl s k))) := by
  have hnl := nm_le (tl s k)
  rw [tl_length] at hnl
  have hke : k < e1 := by omega
  have hes : e1 ≤ s.size := by omega
  have hwl := wh_le (tl s e1)
  rw [tl_length] at hwl
  have hi2 : i2 ≤ s.size := by omega
  have HN := Lib.hid (dName_any s k e1 he hk hs)
  have HB1 := Lib.hid (dBlanks_any s e1 i2 h2 hes hs)
  have hnek : ((e1 : Int) == (k : Int)) = false := beq_eq_false_iff_ne.2 (by omega)
  have hez : (k : Int) ≤ (e1 : Int) := by omega
  have hez2 : (e1 : Int) ≤ (s.size : Int) := by omega
  have hO1 : attrO k (tl s k) = ((spO (tl s e1)).seq (tl s e1) fun _ _ l2 => (mustO 61 l2).seq l2 fun _ _ l3 => (spO l3).seq l3 fun _ _ l4 => (valueO l4).map fun v => ⟨(tl s k).take (nm (tl s k)), v, k⟩).on (nm (tl s k)) := by
    unfold attrO
    rw [seq_is (show nameO (tl s k) = .ok ((tl s k).take (nm (tl s k))) (nm (tl s k)) by unfold nameO; rw [if_neg hn]), tl_drop, he]
  have hO2 : attrO k (tl s k) = (((mustO 61 (tl s i2)).seq (tl s i2) fun _ _ l3 => (spO l3).seq l3 fun _ _ l4 => (valueO l4).map fun v => ⟨(tl s k).take (nm (tl s k)), v, k⟩).on (wh (tl s e1))).on (nm (tl s k)) := by
    rw [hO1]; unfold spO; rw [seq_is rfl, tl_drop, h2]
  have HA61 := Lib.hid (dAt_is s ⟨#[61]⟩ i2 false (by show false = Lib.hasPrefix (tl s i2) [61]; rw [at_hd _ _ _ (by decide)]; exact (decide_eq_false h61).symm) hi2 (by omega) (by show 1 ≤ 140737488355328; omega))
  obtain ⟨a, ha⟩ : ∃ a, a = msA s f i2 := ⟨_, rfl⟩
  obtain ⟨c, hc⟩ : ∃ c, c = msC s i2 := ⟨_, rfl⟩
  have HMS := Lib.hid (dMiss_x s f i2 a c ha.symm hc.symm)
  have HX : Hid (failO k f (attrO k (tl s k)) = some (a, c) ∧ c ≠ 0) := Lib.hid (by
    rw [ha, hc]
    refine ⟨?_, msC_ne s i2⟩
    rw [hO2, failO_on, failO_on, show k + nm (tl s k) + wh (tl s e1) = i2 by omega]
    refine failO_seq1 ?_
    unfold mustO
    rw [if_neg h61]
    exact ms_wrong hi2)
  clear ha hc h61 hO1 hO2 he hn h2 hwl hnl
  go_enter Tryz.func46, Tryz.ntmps46
  go_wp2_with fail
  obtain ⟨W3, hW3⟩ : ∃ W3, W3 = ((w.alloc (.cells #[.string ⟨#[]⟩, .string ⟨#[]⟩, .int .i64 0] 38)).alloc (.cells #[.int .i64 0, .int .i64 0] 27)).alloc (.cells #[.string ⟨#[]⟩, .string ⟨#[]⟩, .int .i64 (k : Int)] 38) := ⟨_, rfl⟩
  obtain ⟨g6, g8, g9, gb, gs⟩ := boxes3 w _ _ _ _ _ _ W3 hW3
  rw [← hW3]
  clear hW3
  refine (HN.out _).mono ?_
  rintro e w1 ⟨rfl, hb1⟩
  have o6 := g6.below hb1 (by omega)
  have o8 := g8.below hb1 (by omega)
  have o9 := g9.below hb1 (by omega)
  have obel : Below w.heap.size w w1 := gb.trans (hb1.mono (by omega))
  have OS : Hid (w.heap.size + 1 + 1 + 1 ≤ w1.heap.size) := Lib.hid (by have := hb1.size; omega)
  have ne69 : w.heap.size ≠ w.heap.size + 1 + 1 := by omega
  have ne89 : w.heap.size + 1 ≠ w.heap.size + 1 + 1 := by omega
  have ne86 : w.heap.size + 1 ≠ w.heap.size := by omega
  have lo6 : w.heap.size ≤ w.heap.size := Nat.le_refl _
  have lo8 : w.heap.size ≤ w.heap.size + 1 := by omega
  have oc := o9.c (j := 0) rfl
  have oz := o9.fz 0
  have hx9 : Bx 38 (w1.setCell ⟨w.heap.size + 1 + 1, 0, none⟩ (.string NM)) (w.heap.size + 1 + 1) #[.string NM, .string ⟨#[]⟩, .int .i64 (k : Int)] := o9.set 0 (.string NM)
  have hx6 := o6.other (r := w.heap.size + 1 + 1) (by omega) 0 (.string NM)
  have hx8 := o8.other (r := w.heap.size + 1 + 1) (by omega) 0 (.string NM)
  have hbel : Below w.heap.size w (w1.setCell ⟨w.heap.size + 1 + 1, 0, none⟩ (.string NM)) := Below.setCell obel (p := ⟨w.heap.size + 1 + 1, 0, none⟩) (by show w.heap.size ≤ w.heap.size + 1 + 1; omega) _
  have HX9 := Lib.hid hx9
  have HX6 := Lib.hid hx6
  have HX8 := Lib.hid hx8
  have HBE := Lib.hid hbel
  have OS5H : Hid (w.heap.size + 1 + 1 + 1 ≤ (w1.setCell ⟨w.heap.size + 1 + 1, 0, none⟩ (.string NM)).heap.size) := Lib.hid (by simp; exact OS.out)
  clear hx9 hx6 hx8 hbel g6 g8 g9 gb gs hb1 o6 o8 o9 obel
  go_wp2_with (first
    | (go_at_call 45; ((with_reducible refine (HB1.out _).mono ?_); rintro e w2 ⟨rfl, rfl⟩))
    | (go_at_call 23; ((with_reducible refine (HA61.out _).mono ?_); rintro e w4 ⟨rfl, rfl⟩)))
  have hx9 := HX9.out
  have hx6 := HX6.out
  have hx8 := HX8.out
  have hbel := HBE.out
  generalize w1.setCell ⟨w.heap.size + 1 + 1, 0, none⟩ (.string NM) = W5 at *
  clear HX9 HX6 HX8 HBE oc oz
  obtain ⟨V, hV⟩ : ∃ V, V = W5.drew := ⟨_, rfl⟩
  have v9 : Bx 38 V (w.heap.size + 1 + 1) #[.string NM, .string ⟨#[]⟩, .int .i64 (k : Int)] := by rw [hV]; exact hx9
  have v6 : Bx 38 V w.heap.size #[.string ⟨#[]⟩, .string ⟨#[]⟩, .int .i64 0] := by rw [hV]; exact hx6
  have v8 : Bx 27 V (w.heap.size + 1) #[.int .i64 0, .int .i64 0] := by rw [hV]; exact hx8
  have vb : Below w.heap.size w V := by rw [hV]; exact Below.drew hbel
  obtain ⟨A, hA⟩ : ∃ A, A = V.alloc (.cells #[.int .i64 (a : Int), .int .i64 c] 27) := ⟨_, rfl⟩
  have a9 : Bx 38 A (w.heap.size + 1 + 1) #[.string NM, .string ⟨#[]⟩, .int .i64 (k : Int)] := by rw [hA]; exact v9.alloc _
  have a6 : Bx 38 A w.heap.size #[.string ⟨#[]⟩, .string ⟨#[]⟩, .int .i64 0] := by rw [hA]; exact v6.alloc _
  have a8 : Bx 27 A (w.heap.size + 1) #[.int .i64 0, .int .i64 0] := by rw [hA]; exact v8.alloc _
  have ab : Below w.heap.size w A := by rw [hA]; exact vb.alloc vb.size _
  obtain ⟨B, hB⟩ : ∃ B, B = (((A.setCell ⟨w.heap.size, 0, none⟩ (.string NM)).setCell ⟨w.heap.size, 1, none⟩ (.string ⟨#[]⟩)).setCell ⟨w.heap.size, 2, none⟩ (.int .i64 (k : Int))) := ⟨_, rfl⟩
  have b9 : Bx 38 B (w.heap.size + 1 + 1) #[.string NM, .string ⟨#[]⟩, .int .i64 (k : Int)] := by rw [hB]; exact (((a9.other ne69 _ _).other ne69 _ _).other ne69 _ _)
  have b6 : Bx 38 B w.heap.size #[.string NM, .string ⟨#[]⟩, .int .i64 (k : Int)] := by rw [hB]; exact (((a6.set 0 (.string NM)).set 1 (.string ⟨#[]⟩)).set 2 (.int .i64 (k : Int)))
  have b8 : Bx 27 B (w.heap.size + 1) #[.int .i64 0, .int .i64 0] := by rw [hB]; exact (((a8.other (Ne.symm ne86) _ _).other (Ne.symm ne86) _ _).other (Ne.symm ne86) _ _)
  have bb : Below w.heap.size w B := by rw [hB]; exact (Below.setCell (Below.setCell (Below.setCell ab (p := ⟨w.heap.size, 0, none⟩) lo6 _) (p := ⟨w.heap.size, 1, none⟩) lo6 _) (p := ⟨w.heap.size, 2, none⟩) lo6 _)
  obtain ⟨C, hC⟩ : ∃ C, C = ((B.setCell ⟨(w.heap.size + 1), 0, none⟩ (.int .i64 (a : Int))).setCell ⟨(w.heap.size + 1), 1, none⟩ (.int .i64 c)) := ⟨_, rfl⟩
  have c9 : Bx 38 C (w.heap.size + 1 + 1) #[.string NM, .string ⟨#[]⟩, .int .i64 (k : Int)] := by rw [hC]; exact ((b9.other ne89 _ _).other ne89 _ _)
  have c6 : Bx 38 C w.heap.size #[.string NM, .string ⟨#[]⟩, .int .i64 (k : Int)] := by rw [hC]; exact ((b6.other ne86 _ _).other ne86 _ _)
  have c8 : Bx 27 C (w.heap.size + 1) #[.int .i64 (a : Int), .int .i64 c] := by rw [hC]; exact ((b8.set 0 (.int .i64 (a : Int))).set 1 (.int .i64 c))
  have cb : Below w.heap.size w C := by rw [hC]; exact (Below.setCell (Below.setCell bb (p := ⟨(w.heap.size + 1), 0, none⟩) lo8 _) (p := ⟨(w.heap.size + 1), 1, none⟩) lo8 _)
  have X0 := Lib.hid (fun ls => rtW_cell (i := 5) (j := 6) (k := 8) (ls := ls) (p := ⟨(w.heap.size + 1 + 1), 0, none⟩) (v9.c (j := 0) rfl) (a9.c (j := 0) rfl) (b9.c (j := 0) rfl) (c9.c (j := 0) rfl))
  have X1 := Lib.hid (fun ls => rtW_cell (i := 5) (j := 6) (k := 8) (ls := ls) (p := ⟨(w.heap.size + 1 + 1), 1, none⟩) (v9.c (j := 1) rfl) (a9.c (j := 1) rfl) (b9.c (j := 1) rfl) (c9.c (j := 1) rfl))
  have X2 := Lib.hid (fun ls => rtW_cell (i := 5) (j := 6) (k := 8) (ls := ls) (p := ⟨(w.heap.size + 1 + 1), 2, none⟩) (v9.c (j := 2) rfl) (a9.c (j := 2) rfl) (b9.c (j := 2) rfl) (c9.c (j := 2) rfl))
  have A6 := Lib.hid a6
  have B8 := Lib.hid b8
  have CE := Lib.hid (And.intro c6 (And.intro c8 cb))
  have HV := Lib.hid hV
  have HA := Lib.hid hA
  have HB := Lib.hid hB
  have HC := Lib.hid hC
  clear v9 v6 v8 vb a9 a6 a8 ab b9 b6 b8 bb c9 c6 c8 cb hV hA hB hC hx9 hx6 hx8 hbel
  refine wp_region_chain (fun n => (#[.agg #[.string NM, .string ⟨#[]⟩, .int .i64 (k : Int)], .int .i64 (i2 : Int), .string s, .int .i64 (f : Int), .int .i64 (i2 : Int), .agg #[.int .i64 (a : Int), .int .i64 c], undef, .int .i64 (i2 : Int), undef] : Array Value).getD n undef) (rtW 5 6 8 V A B C) (by kernel_rfl) (by kernel_rfl) (by rw [HV.out]; rfl) ?_ ?_
  · refine ⟨?_, ?_, ?_, ?_, ?_, ?_, ?_, ?_, ?_, trivial⟩
    · intro a0 ls hcl hi hd hoff hf
      left
      refine ⟨rfl, ?_⟩
      have e0 : a0.tmps.getD 9 undef = .pointer (some ⟨(w.heap.size + 1 + 1), 0, none⟩) := hoff.slot 9 (no_dst (by kernel_rfl))
      have k0 := X0.out ls
      have k1 := X1.out ls
      have k2 := X2.out ls
      go_simp
      all_goals first | exact ⟨rfl, rfl⟩ | exact rfl
    · intro a0 ls hcl hi hd hoff hf
      left
      refine ⟨rfl, ?_⟩
      have e0 : a0.tmps.getD 2 undef = .int .i64 (i2 : Int) := hoff.slot 2 (no_dst (by kernel_rfl))
      go_simp
      all_goals first | exact ⟨rfl, rfl⟩ | exact rfl
    · intro a0 ls hcl hi hd hoff hf
      left
      refine ⟨rfl, ?_⟩
      have e0 : a0.tmps.getD 0 undef = .string s := hoff.slot 0 (no_dst (by kernel_rfl))
      go_simp
      all_goals first | exact ⟨rfl, rfl⟩ | exact rfl
    · intro a0 ls hcl hi hd hoff hf
      left
      refine ⟨rfl, ?_⟩
      have e0 : a0.tmps.getD 1 undef = .int .i64 (f : Int) := hoff.slot 1 (no_dst (by kernel_rfl))
      go_simp
      all_goals first | exact ⟨rfl, rfl⟩ | exact rfl
    · intro a0 ls hcl hi hd hoff hf
      left
      refine ⟨rfl, ?_⟩
      have e0 : a0.tmps.getD 2 undef = .int .i64 (i2 : Int) := hoff.slot 2 (no_dst (by kernel_rfl))
      go_simp
      all_goals first | exact ⟨rfl, rfl⟩ | exact rfl
    · intro a0 ls hcl hi hd hoff hf
      left
      refine ⟨rfl, ?_⟩
      have e0 : a0.tmps.getD 42 undef = .string s := hf 2 _ (hd 2 rfl) rfl
      have e1 : a0.tmps.getD 43 undef = .int .i64 (f : Int) := hf 3 _ (hd 3 rfl) rfl
      have e2 : a0.tmps.getD 44 undef = .int .i64 (i2 : Int) := hf 4 _ (hd 4 rfl) rfl
      have h6 : ls 6 = false := hcl.no hi rfl rfl
      have h8 : ls 8 = false := hcl.no (hcl.no h6 (i := 7) rfl rfl) rfl rfl
      have hw : rtW 5 6 8 V A B C (updB ls 5) = A := rtW_i h8 h6 rfl
      rw [hw, rtW_0 h8 h6 hi]
      have hAA := HA.out
      go_simp
      refine (HMS.out V).mono ?_
      rintro e' w' ⟨rfl, rfl⟩
      first | exact ⟨rfl, rfl⟩ | exact ⟨rfl, hAA.symm⟩ | exact ⟨_, rfl, rfl, hAA.symm⟩
    · intro a0 ls hcl hi hd hoff hf
      left
      refine ⟨rfl, ?_⟩
      have e0 : a0.tmps.getD 6 undef = .pointer (some ⟨w.heap.size, 0, none⟩) := hoff.slot 6 (no_dst (by kernel_rfl))
      have e1 : a0.tmps.getD 40 undef = .agg #[.string NM, .string ⟨#[]⟩, .int .i64 (k : Int)] := hf 0 _ (hd 0 rfl) rfl
      have h8 : ls 8 = false := hcl.no (hcl.no hi (i := 7) rfl rfl) rfl rfl
      have hw : rtW 5 6 8 V A B C (updB ls 6) = B := rtW_j h8 rfl
      rw [hw, rtW_i h8 hi (hd 5 rfl)]
      have k0 := A6.out.c (j := 0) rfl
      have z0 := A6.out.fz 0
      have k1 := A6.out.c (j := 1) rfl
      have z1 := A6.out.fz 1
      have k2 := A6.out.c (j := 2) rfl
      have z2 := A6.out.fz 2
      have hBB := HB.out
      go_simp
      all_goals first | exact ⟨rfl, hBB.symm⟩ | exact hBB.symm
    · intro a0 ls hcl hi hd hoff hf
      left
      refine ⟨rfl, ?_⟩
      have e0 : a0.tmps.getD 41 undef = .int .i64 (i2 : Int) := hf 1 _ (hd 1 rfl) rfl
      go_simp
      all_goals first | exact ⟨rfl, rfl⟩ | exact rfl
    · intro a0 ls hcl hi hd hoff hf
      left
      refine ⟨rfl, ?_⟩
      have e0 : a0.tmps.getD 8 undef = .pointer (some ⟨(w.heap.size + 1), 0, none⟩) := hoff.slot 8 (no_dst (by kernel_rfl))
      have e1 : a0.tmps.getD 45 undef = .agg #[.int .i64 (a : Int), .int .i64 c] := hf 5 _ (hd 5 rfl) rfl
      have hw : rtW 5 6 8 V A B C (updB ls 8) = C := rtW_k rfl
      have h6 : ls 6 = true := hcl 7 _ rfl (hd 7 rfl) 6 rfl
      rw [hw, rtW_j hi h6]
      have k0 := B8.out.c (j := 0) rfl
      have z0 := B8.out.fz 0
      have k1 := B8.out.c (j := 1) rfl
      have z1 := B8.out.fz 1
      have hCC := HC.out
      go_simp
      all_goals first | exact ⟨rfl, hCC.symm⟩ | exact hCC.symm
  · intro a0 ls hl hoff hf
    rw [rtW_k (hl 8 (by decide))]
    rename_i hK
    have e7 : a0.tmps.getD 7 undef = .int .i64 (i2 : Int) := hf 7 _ rfl
    have e6 : a0.tmps.getD 6 undef = .pointer (some ⟨w.heap.size, 0, none⟩) := hoff.slot 6 (no_dst (by kernel_rfl))
    have e8 : a0.tmps.getD 8 undef = .pointer (some ⟨w.heap.size + 1, 0, none⟩) := hoff.slot 8 (no_dst (by kernel_rfl))
    have e6' : a0.tmps[6]?.getD undef = .pointer (some ⟨w.heap.size, 0, none⟩) := by simpa using e6
    have e7' : a0.tmps[7]?.getD undef = .int .i64 (i2 : Int) := by simpa using e7
    have e8' : a0.tmps[8]?.getD undef = .pointer (some ⟨w.heap.size + 1, 0, none⟩) := by simpa using e8
    have x0 := CE.out.1.c (j := 0) rfl
    have x1 := CE.out.1.c (j := 1) rfl
    have x2 := CE.out.1.c (j := 2) rfl
    have y0 := CE.out.2.1.c (j := 0) rfl
    have y1 := CE.out.2.1.c (j := 1) rfl
    refine hK _ _ ?_
    go_wp2
    refine bodyPost_ret (v := .tuple #[.agg #[.string NM, .string ⟨#[]⟩, .int .i64 (k : Int)], .int .i64 (i2 : Int), fltV a c]) (by simp only [results, Tryz.results46]; simp [results, go_sem, e6', e7', e8', x0, x1, x2, y0, y1]) hoff.defers ?_
    exact AtPost.fail HX.out.1 HX.out.2 CE.out.2.2
set_option maxHeartbeats 4000000 in
set_option maxRecDepth 100000 in
theorem dAttr_f3 (s : ByteArray) (f k e1 i2 : Nat) (NM : ByteArray) (hk : k ≤ s.size) (hs : s.size ≤ 65536) (he : k + nm (tl s k) = e1) (hn : nm (tl s k) ≠ 0) (h2 : e1 + wh (tl s e1) = i2) (hNM : s.extract k e1 = NM) (h61 : hd (tl s i2) = 61) (i4 : Nat) (h4 : i2 + 1 + wh (tl s (i2 + 1)) = i4) (h34 : hd (tl s i4) ≠ 34) (h39 : hd (tl s i4) ≠ 39) (w : World) :
    Calls Tryz.prog 46 #[.string s, .int .i64 (f : Int), .int .i64 (k : Int)] w (AtPost w k f (attrO k (tl s k))) := by
  have hnl := nm_le (tl s k)
  rw [tl_length] at hnl
  have hke : k < e1 := by omega
  have hes : e1 ≤ s.size := by omega
  have hwl := wh_le (tl s e1)
  rw [tl_length] at hwl
  have hi2 : i2 ≤ s.size := by omega
  have HN := Lib.hid (dName_any s k e1 he hk hs)
  have HB1 := Lib.hid (dBlanks_any s e1 i2 h2 hes hs)
  have hnek : ((e1 : Int) == (k : Int)) = false := beq_eq_false_iff_ne.2 (by omega)
  have hez : (k : Int) ≤ (e1 : Int) := by omega
  have hez2 : (e1 : Int) ≤ (s.size : Int) := by omega
  have hO1 : attrO k (tl s k) = ((spO (tl s e1)).seq (tl s e1) fun _ _ l2 => (mustO 61 l2).seq l2 fun _ _ l3 => (spO l3).seq l3 fun _ _ l4 => (valueO l4).map fun v => ⟨(tl s k).take (nm (tl s k)), v, k⟩).on (nm (tl s k)) := by
    unfold attrO
    rw [seq_is (show nameO (tl s k) = .ok ((tl s k).take (nm (tl s k))) (nm (tl s k)) by unfold nameO; rw [if_neg hn]), tl_drop, he]
  have hO2 : attrO k (tl s k) = (((mustO 61 (tl s i2)).seq (tl s i2) fun _ _ l3 => (spO l3).seq l3 fun _ _ l4 => (valueO l4).map fun v => ⟨(tl s k).take (nm (tl s k)), v, k⟩).on (wh (tl s e1))).on (nm (tl s k)) := by
    rw [hO1]; unfold spO; rw [seq_is rfl, tl_drop, h2]
  have hlt2 : i2 < s.size := by
    have := hd_ne (l := tl s i2) (by rw [h61]; decide)
    rw [tl_length] at this; omega
  have hwl2 := wh_le (tl s (i2 + 1))
  rw [tl_length] at hwl2
  have hi4 : i4 ≤ s.size := by omega
  have HB2 := Lib.hid (dBlanks_any s (i2 + 1) i4 h4 (by omega) hs)
  rw [show ((i2 + 1 : Nat) : Int) = (i2 : Int) + 1 by push_cast; rfl] at HB2
  have hw21 : wrap64 ((i2 : Int) + 1) = (i2 : Int) + 1 := Go.IntWalk.wrap64_in _ (by omega)
  have HA61 := Lib.hid (dAt_is s ⟨#[61]⟩ i2 true (by show true = Lib.hasPrefix (tl s i2) [61]; rw [at_hd _ _ _ (by decide)]; exact (decide_eq_true h61).symm) hi2 (by omega) (by show 1 ≤ 140737488355328; omega))
  have hO3 : attrO k (tl s k) = (((((valueO (tl s i4)).map fun v => (⟨(tl s k).take (nm (tl s k)), v, k⟩ : At3)).on (wh (tl s (i2 + 1)))).on 1).on (wh (tl s e1))).on (nm (tl s k)) := by
    rw [hO2, seq_is (show mustO 61 (tl s i2) = .ok () 1 by unfold mustO; rw [if_pos h61]), tl_drop]
    unfold spO
    rw [seq_is rfl, tl_drop, h4]
  have hO4 : ∀ {x : Nat} {c : Int}, failO i4 f (valueO (tl s i4)) = some (x, c) → failO k f (attrO k (tl s k)) = some (x, c) := by
    intro x c h
    rw [hO3, failO_on, failO_on, failO_on, failO_on, failO_map, show k + nm (tl s k) + wh (tl s e1) + 1 + wh (tl s (i2 + 1)) = i4 by omega]
    exact h
  have HA34 := Lib.hid (dAt_is s ⟨#[34]⟩ i4 false (by show false = Lib.hasPrefix (tl s i4) [34]; rw [at_hd _ _ _ (by decide)]; exact (decide_eq_false h34).symm) hi4 (by omega) (by show 1 ≤ 140737488355328; omega))
  have HA39 := Lib.hid (dAt_is s ⟨#[39]⟩ i4 false (by show false = Lib.hasPrefix (tl s i4) [39]; rw [at_hd _ _ _ (by decide)]; exact (decide_eq_false h39).symm) hi4 (by omega) (by show 1 ≤ 140737488355328; omega))
  obtain ⟨a, ha⟩ : ∃ a, a = msA s f i4 := ⟨_, rfl⟩
  obtain ⟨c, hc⟩ : ∃ c, c = msC s i4 := ⟨_, rfl⟩
  have HMS := Lib.hid (dMiss_x s f i4 a c ha.symm hc.symm)
  have HX : Hid (failO k f (attrO k (tl s k)) = some (a, c) ∧ c ≠ 0) := Lib.hid (by
    rw [ha, hc]
    refine ⟨hO4 ?_, msC_ne s i4⟩
    unfold valueO
    rw [if_pos ⟨h34, h39⟩, failO_wrong (β := Unit)]
    exact ms_wrong hi4)
  clear ha hc h61 h34 h39 hO1 hO2 hO3 hO4 he hn h2 h4 hwl hnl hwl2
  go_enter Tryz.func46, Tryz.ntmps46
  go_wp2_with fail
  obtain ⟨W3, hW3⟩ : ∃ W3, W3 = ((w.alloc (.cells #[.string ⟨#[]⟩, .string ⟨#[]⟩, .int .i64 0] 38)).alloc (.cells #[.int .i64 0, .int .i64 0] 27)).alloc (.cells #[.string ⟨#[]⟩, .string ⟨#[]⟩, .int .i64 (k : Int)] 38) := ⟨_, rfl⟩
  obtain ⟨g6, g8, g9, gb, gs⟩ := boxes3 w _ _ _ _ _ _ W3 hW3
  rw [← hW3]
  clear hW3
  refine (HN.out _).mono ?_
  rintro e w1 ⟨rfl, hb1⟩
  have o6 := g6.below hb1 (by omega)
  have o8 := g8.below hb1 (by omega)
  have o9 := g9.below hb1 (by omega)
  have obel : Below w.heap.size w w1 := gb.trans (hb1.mono (by omega))
  have OS : Hid (w.heap.size + 1 + 1 + 1 ≤ w1.heap.size) := Lib.hid (by have := hb1.size; omega)
  have ne69 : w.heap.size ≠ w.heap.size + 1 + 1 := by omega
  have ne89 : w.heap.size + 1 ≠ w.heap.size + 1 + 1 := by omega
  have ne86 : w.heap.size + 1 ≠ w.heap.size := by omega
  have lo6 : w.heap.size ≤ w.heap.size := Nat.le_refl _
  have lo8 : w.heap.size ≤ w.heap.size + 1 := by omega
  have oc := o9.c (j := 0) rfl
  have oz := o9.fz 0
  have hx9 : Bx 38 (w1.setCell ⟨w.heap.size + 1 + 1, 0, none⟩ (.string NM)) (w.heap.size + 1 + 1) #[.string NM, .string ⟨#[]⟩, .int .i64 (k : Int)] := o9.set 0 (.string NM)
  have hx6 := o6.other (r := w.heap.size + 1 + 1) (by omega) 0 (.string NM)
  have hx8 := o8.other (r := w.heap.size + 1 + 1) (by omega) 0 (.string NM)
  have hbel : Below w.heap.size w (w1.setCell ⟨w.heap.size + 1 + 1, 0, none⟩ (.string NM)) := Below.setCell obel (p := ⟨w.heap.size + 1 + 1, 0, none⟩) (by show w.heap.size ≤ w.heap.size + 1 + 1; omega) _
  have HX9 := Lib.hid hx9
  have HX6 := Lib.hid hx6
  have HX8 := Lib.hid hx8
  have HBE := Lib.hid hbel
  have OS5H : Hid (w.heap.size + 1 + 1 + 1 ≤ (w1.setCell ⟨w.heap.size + 1 + 1, 0, none⟩ (.string NM)).heap.size) := Lib.hid (by simp; exact OS.out)
  clear hx9 hx6 hx8 hbel g6 g8 g9 gb gs hb1 o6 o8 o9 obel
  go_wp2_with (first
    | (go_at_call 45; ((with_reducible refine (HB1.out _).mono ?_); rintro e w2 ⟨rfl, rfl⟩))
    | (go_at_call 23; ((with_reducible refine (HA61.out _).mono ?_); rintro e w4 ⟨rfl, rfl⟩))
    | (go_at_call 45; ((with_reducible refine (HB2.out _).mono ?_); rintro e w3 ⟨rfl, rfl⟩))
    | (go_at_call 23; ((with_reducible refine (HA34.out _).mono ?_); rintro e w4 ⟨rfl, rfl⟩))
    | (go_at_call 23; ((with_reducible refine (HA39.out _).mono ?_); rintro e w4 ⟨rfl, rfl⟩)))
  have hx9 := HX9.out
  have hx6 := HX6.out
  have hx8 := HX8.out
  have hbel := HBE.out
  generalize w1.setCell ⟨w.heap.size + 1 + 1, 0, none⟩ (.string NM) = W5 at *
  clear HX9 HX6 HX8 HBE oc oz
  obtain ⟨V, hV⟩ : ∃ V, V = W5.drew := ⟨_, rfl⟩
  have v9 : Bx 38 V (w.heap.size + 1 + 1) #[.string NM, .string ⟨#[]⟩, .int .i64 (k : Int)] := by rw [hV]; exact hx9
  have v6 : Bx 38 V w.heap.size #[.string ⟨#[]⟩, .string ⟨#[]⟩, .int .i64 0] := by rw [hV]; exact hx6
  have v8 : Bx 27 V (w.heap.size + 1) #[.int .i64 0, .int .i64 0] := by rw [hV]; exact hx8
  have vb : Below w.heap.size w V := by rw [hV]; exact Below.drew hbel
  obtain ⟨A, hA⟩ : ∃ A, A = V.alloc (.cells #[.int .i64 (a : Int), .int .i64 c] 27) := ⟨_, rfl⟩
  have a9 : Bx 38 A (w.heap.size + 1 + 1) #[.string NM, .string ⟨#[]⟩, .int .i64 (k : Int)] := by rw [hA]; exact v9.alloc _
  have a6 : Bx 38 A w.heap.size #[.string ⟨#[]⟩, .string ⟨#[]⟩, .int .i64 0] := by rw [hA]; exact v6.alloc _
  have a8 : Bx 27 A (w.heap.size + 1) #[.int .i64 0, .int .i64 0] := by rw [hA]; exact v8.alloc _
  have ab : Below w.heap.size w A := by rw [hA]; exact vb.alloc vb.size _
  obtain ⟨B, hB⟩ : ∃ B, B = (((A.setCell ⟨w.heap.size, 0, none⟩ (.string NM)).setCell ⟨w.heap.size, 1, none⟩ (.string ⟨#[]⟩)).setCell ⟨w.heap.size, 2, none⟩ (.int .i64 (k : Int))) := ⟨_, rfl⟩
  have b9 : Bx 38 B (w.heap.size + 1 + 1) #[.string NM, .string ⟨#[]⟩, .int .i64 (k : Int)] := by rw [hB]; exact (((a9.other ne69 _ _).other ne69 _ _).other ne69 _ _)
  have b6 : Bx 38 B w.heap.size #[.string NM, .string ⟨#[]⟩, .int .i64 (k : Int)] := by rw [hB]; exact (((a6.set 0 (.string NM)).set 1 (.string ⟨#[]⟩)).set 2 (.int .i64 (k : Int)))
  have b8 : Bx 27 B (w.heap.size + 1) #[.int .i64 0, .int .i64 0] := by rw [hB]; exact (((a8.other (Ne.symm ne86) _ _).other (Ne.symm ne86) _ _).other (Ne.symm ne86) _ _)
  have bb : Below w.heap.size w B := by rw [hB]; exact (Below.setCell (Below.setCell (Below.setCell ab (p := ⟨w.heap.size, 0, none⟩) lo6 _) (p := ⟨w.heap.size, 1, none⟩) lo6 _) (p := ⟨w.heap.size, 2, none⟩) lo6 _)
  obtain ⟨C, hC⟩ : ∃ C, C = ((B.setCell ⟨(w.heap.size + 1), 0, none⟩ (.int .i64 (a : Int))).setCell ⟨(w.heap.size + 1), 1, none⟩ (.int .i64 c)) := ⟨_, rfl⟩
  have c9 : Bx 38 C (w.heap.size + 1 + 1) #[.string NM, .string ⟨#[]⟩, .int .i64 (k : Int)] := by rw [hC]; exact ((b9.other ne89 _ _).other ne89 _ _)
  have c6 : Bx 38 C w.heap.size #[.string NM, .string ⟨#[]⟩, .int .i64 (k : Int)] := by rw [hC]; exact ((b6.other ne86 _ _).other ne86 _ _)
  have c8 : Bx 27 C (w.heap.size + 1) #[.int .i64 (a : Int), .int .i64 c] := by rw [hC]; exact ((b8.set 0 (.int .i64 (a : Int))).set 1 (.int .i64 c))
  have cb : Below w.heap.size w C := by rw [hC]; exact (Below.setCell (Below.setCell bb (p := ⟨(w.heap.size + 1), 0, none⟩) lo8 _) (p := ⟨(w.heap.size + 1), 1, none⟩) lo8 _)
  have X0 := Lib.hid (fun ls => rtW_cell (i := 5) (j := 6) (k := 8) (ls := ls) (p := ⟨(w.heap.size + 1 + 1), 0, none⟩) (v9.c (j := 0) rfl) (a9.c (j := 0) rfl) (b9.c (j := 0) rfl) (c9.c (j := 0) rfl))
  have X1 := Lib.hid (fun ls => rtW_cell (i := 5) (j := 6) (k := 8) (ls := ls) (p := ⟨(w.heap.size + 1 + 1), 1, none⟩) (v9.c (j := 1) rfl) (a9.c (j := 1) rfl) (b9.c (j := 1) rfl) (c9.c (j := 1) rfl))
  have X2 := Lib.hid (fun ls => rtW_cell (i := 5) (j := 6) (k := 8) (ls := ls) (p := ⟨(w.heap.size + 1 + 1), 2, none⟩) (v9.c (j := 2) rfl) (a9.c (j := 2) rfl) (b9.c (j := 2) rfl) (c9.c (j := 2) rfl))
  have A6 := Lib.hid a6
  have B8 := Lib.hid b8
  have CE := Lib.hid (And.intro c6 (And.intro c8 cb))
  have HV := Lib.hid hV
  have HA := Lib.hid hA
  have HB := Lib.hid hB
  have HC := Lib.hid hC
  clear v9 v6 v8 vb a9 a6 a8 ab b9 b6 b8 bb c9 c6 c8 cb hV hA hB hC hx9 hx6 hx8 hbel
  refine wp_region_chain (fun n => (#[.agg #[.string NM, .string ⟨#[]⟩, .int .i64 (k : Int)], .int .i64 (i4 : Int), .string s, .int .i64 (f : Int), .int .i64 (i4 : Int), .agg #[.int .i64 (a : Int), .int .i64 c], undef, .int .i64 (i4 : Int), undef] : Array Value).getD n undef) (rtW 5 6 8 V A B C) (by kernel_rfl) (by kernel_rfl) (by rw [HV.out]; rfl) ?_ ?_
  · refine ⟨?_, ?_, ?_, ?_, ?_, ?_, ?_, ?_, ?_, trivial⟩
    · intro a0 ls hcl hi hd hoff hf
      left
      refine ⟨rfl, ?_⟩
      have e0 : a0.tmps.getD 9 undef = .pointer (some ⟨(w.heap.size + 1 + 1), 0, none⟩) := hoff.slot 9 (no_dst (by kernel_rfl))
      have k0 := X0.out ls
      have k1 := X1.out ls
      have k2 := X2.out ls
      go_simp
      all_goals first | exact ⟨rfl, rfl⟩ | exact rfl
    · intro a0 ls hcl hi hd hoff hf
      left
      refine ⟨rfl, ?_⟩
      have e0 : a0.tmps.getD 2 undef = .int .i64 (i4 : Int) := hoff.slot 2 (no_dst (by kernel_rfl))
      go_simp
      all_goals first | exact ⟨rfl, rfl⟩ | exact rfl
    · intro a0 ls hcl hi hd hoff hf
      left
      refine ⟨rfl, ?_⟩
      have e0 : a0.tmps.getD 0 undef = .string s := hoff.slot 0 (no_dst (by kernel_rfl))
      go_simp
      all_goals first | exact ⟨rfl, rfl⟩ | exact rfl
    · intro a0 ls hcl hi hd hoff hf
      left
      refine ⟨rfl, ?_⟩
      have e0 : a0.tmps.getD 1 undef = .int .i64 (f : Int) := hoff.slot 1 (no_dst (by kernel_rfl))
      go_simp
      all_goals first | exact ⟨rfl, rfl⟩ | exact rfl
    · intro a0 ls hcl hi hd hoff hf
      left
      refine ⟨rfl, ?_⟩
      have e0 : a0.tmps.getD 2 undef = .int .i64 (i4 : Int) := hoff.slot 2 (no_dst (by kernel_rfl))
      go_simp
      all_goals first | exact ⟨rfl, rfl⟩ | exact rfl
    · intro a0 ls hcl hi hd hoff hf
      left
      refine ⟨rfl, ?_⟩
      have e0 : a0.tmps.getD 62 undef = .string s := hf 2 _ (hd 2 rfl) rfl
      have e1 : a0.tmps.getD 63 undef = .int .i64 (f : Int) := hf 3 _ (hd 3 rfl) rfl
      have e2 : a0.tmps.getD 64 undef = .int .i64 (i4 : Int) := hf 4 _ (hd 4 rfl) rfl
      have h6 : ls 6 = false := hcl.no hi rfl rfl
      have h8 : ls 8 = false := hcl.no (hcl.no h6 (i := 7) rfl rfl) rfl rfl
      have hw : rtW 5 6 8 V A B C (updB ls 5) = A := rtW_i h8 h6 rfl
      rw [hw, rtW_0 h8 h6 hi]
      have hAA := HA.out
      go_simp
      refine (HMS.out V).mono ?_
      rintro e' w' ⟨rfl, rfl⟩
      first | exact ⟨rfl, rfl⟩ | exact ⟨rfl, hAA.symm⟩ | exact ⟨_, rfl, rfl, hAA.symm⟩
    · intro a0 ls hcl hi hd hoff hf
      left
      refine ⟨rfl, ?_⟩
      have e0 : a0.tmps.getD 6 undef = .pointer (some ⟨w.heap.size, 0, none⟩) := hoff.slot 6 (no_dst (by kernel_rfl))
      have e1 : a0.tmps.getD 60 undef = .agg #[.string NM, .string ⟨#[]⟩, .int .i64 (k : Int)] := hf 0 _ (hd 0 rfl) rfl
      have h8 : ls 8 = false := hcl.no (hcl.no hi (i := 7) rfl rfl) rfl rfl
      have hw : rtW 5 6 8 V A B C (updB ls 6) = B := rtW_j h8 rfl
      rw [hw, rtW_i h8 hi (hd 5 rfl)]
      have k0 := A6.out.c (j := 0) rfl
      have z0 := A6.out.fz 0
      have k1 := A6.out.c (j := 1) rfl
      have z1 := A6.out.fz 1
      have k2 := A6.out.c (j := 2) rfl
      have z2 := A6.out.fz 2
      have hBB := HB.out
      go_simp
      all_goals first | exact ⟨rfl, hBB.symm⟩ | exact hBB.symm
    · intro a0 ls hcl hi hd hoff hf
      left
      refine ⟨rfl, ?_⟩
      have e0 : a0.tmps.getD 61 undef = .int .i64 (i4 : Int) := hf 1 _ (hd 1 rfl) rfl
      go_simp
      all_goals first | exact ⟨rfl, rfl⟩ | exact rfl
    · intro a0 ls hcl hi hd hoff hf
      left
      refine ⟨rfl, ?_⟩
      have e0 : a0.tmps.getD 8 undef = .pointer (some ⟨(w.heap.size + 1), 0, none⟩) := hoff.slot 8 (no_dst (by kernel_rfl))
      have e1 : a0.tmps.getD 65 undef = .agg #[.int .i64 (a : Int), .int .i64 c] := hf 5 _ (hd 5 rfl) rfl
      have hw : rtW 5 6 8 V A B C (updB ls 8) = C := rtW_k rfl
      have h6 : ls 6 = true := hcl 7 _ rfl (hd 7 rfl) 6 rfl
      rw [hw, rtW_j hi h6]
      have k0 := B8.out.c (j := 0) rfl
      have z0 := B8.out.fz 0
      have k1 := B8.out.c (j := 1) rfl
      have z1 := B8.out.fz 1
      have hCC := HC.out
      go_simp
      all_goals first | exact ⟨rfl, hCC.symm⟩ | exact hCC.symm
  · intro a0 ls hl hoff hf
    rw [rtW_k (hl 8 (by decide))]
    rename_i hK
    have e7 : a0.tmps.getD 7 undef = .int .i64 (i4 : Int) := hf 7 _ rfl
    have e6 : a0.tmps.getD 6 undef = .pointer (some ⟨w.heap.size, 0, none⟩) := hoff.slot 6 (no_dst (by kernel_rfl))
    have e8 : a0.tmps.getD 8 undef = .pointer (some ⟨w.heap.size + 1, 0, none⟩) := hoff.slot 8 (no_dst (by kernel_rfl))
    have e6' : a0.tmps[6]?.getD undef = .pointer (some ⟨w.heap.size, 0, none⟩) := by simpa using e6
    have e7' : a0.tmps[7]?.getD undef = .int .i64 (i4 : Int) := by simpa using e7
    have e8' : a0.tmps[8]?.getD undef = .pointer (some ⟨w.heap.size + 1, 0, none⟩) := by simpa using e8
    have x0 := CE.out.1.c (j := 0) rfl
    have x1 := CE.out.1.c (j := 1) rfl
    have x2 := CE.out.1.c (j := 2) rfl
    have y0 := CE.out.2.1.c (j := 0) rfl
    have y1 := CE.out.2.1.c (j := 1) rfl
    refine hK _ _ ?_
    go_wp2
    refine bodyPost_ret (v := .tuple #[.agg #[.string NM, .string ⟨#[]⟩, .int .i64 (k : Int)], .int .i64 (i4 : Int), fltV a c]) (by simp only [results, Tryz.results46]; simp [results, go_sem, e6', e7', e8', x0, x1, x2, y0, y1]) hoff.defers ?_
    exact AtPost.fail HX.out.1 HX.out.2 CE.out.2.2
set_option maxHeartbeats 4000000 in
set_option maxRecDepth 100000 in
theorem dAttr_ft (s : ByteArray) (f k e1 i2 : Nat) (NM : ByteArray) (hk : k ≤ s.size) (hs : s.size ≤ 65536) (he : k + nm (tl s k) = e1) (hn : nm (tl s k) ≠ 0) (h2 : e1 + wh (tl s e1) = i2) (hNM : s.extract k e1 = NM) (h61 : hd (tl s i2) = 61) (i4 : Nat) (h4 : i2 + 1 + wh (tl s (i2 + 1)) = i4) (q : Nat) (hq : hd (tl s i4) = q) (hqq : q = 34 ∨ q = 39) (h0 : ∀ b ∈ s.data.toList, b ≠ 0) {d : Nat} {c : Int} (hw : wholeO true q (tl s (i4 + 1)) = .bad d c) (hc : c ≠ 0) (w : World) :
    Calls Tryz.prog 46 #[.string s, .int .i64 (f : Int), .int .i64 (k : Int)] w (AtPost w k f (attrO k (tl s k))) := by
  have hnl := nm_le (tl s k)
  rw [tl_length] at hnl
  have hke : k < e1 := by omega
  have hes : e1 ≤ s.size := by omega
  have hwl := wh_le (tl s e1)
  rw [tl_length] at hwl
  have hi2 : i2 ≤ s.size := by omega
  have HN := Lib.hid (dName_any s k e1 he hk hs)
  have HB1 := Lib.hid (dBlanks_any s e1 i2 h2 hes hs)
  have hnek : ((e1 : Int) == (k : Int)) = false := beq_eq_false_iff_ne.2 (by omega)
  have hez : (k : Int) ≤ (e1 : Int) := by omega
  have hez2 : (e1 : Int) ≤ (s.size : Int) := by omega
  have hO1 : attrO k (tl s k) = ((spO (tl s e1)).seq (tl s e1) fun _ _ l2 => (mustO 61 l2).seq l2 fun _ _ l3 => (spO l3).seq l3 fun _ _ l4 => (valueO l4).map fun v => ⟨(tl s k).take (nm (tl s k)), v, k⟩).on (nm (tl s k)) := by
    unfold attrO
    rw [seq_is (show nameO (tl s k) = .ok ((tl s k).take (nm (tl s k))) (nm (tl s k)) by unfold nameO; rw [if_neg hn]), tl_drop, he]
  have hO2 : attrO k (tl s k) = (((mustO 61 (tl s i2)).seq (tl s i2) fun _ _ l3 => (spO l3).seq l3 fun _ _ l4 => (valueO l4).map fun v => ⟨(tl s k).take (nm (tl s k)), v, k⟩).on (wh (tl s e1))).on (nm (tl s k)) := by
    rw [hO1]; unfold spO; rw [seq_is rfl, tl_drop, h2]
  have hlt2 : i2 < s.size := by
    have := hd_ne (l := tl s i2) (by rw [h61]; decide)
    rw [tl_length] at this; omega
  have hwl2 := wh_le (tl s (i2 + 1))
  rw [tl_length] at hwl2
  have hi4 : i4 ≤ s.size := by omega
  have HB2 := Lib.hid (dBlanks_any s (i2 + 1) i4 h4 (by omega) hs)
  rw [show ((i2 + 1 : Nat) : Int) = (i2 : Int) + 1 by push_cast; rfl] at HB2
  have hw21 : wrap64 ((i2 : Int) + 1) = (i2 : Int) + 1 := Go.IntWalk.wrap64_in _ (by omega)
  have HA61 := Lib.hid (dAt_is s ⟨#[61]⟩ i2 true (by show true = Lib.hasPrefix (tl s i2) [61]; rw [at_hd _ _ _ (by decide)]; exact (decide_eq_true h61).symm) hi2 (by omega) (by show 1 ≤ 140737488355328; omega))
  have hO3 : attrO k (tl s k) = (((((valueO (tl s i4)).map fun v => (⟨(tl s k).take (nm (tl s k)), v, k⟩ : At3)).on (wh (tl s (i2 + 1)))).on 1).on (wh (tl s e1))).on (nm (tl s k)) := by
    rw [hO2, seq_is (show mustO 61 (tl s i2) = .ok () 1 by unfold mustO; rw [if_pos h61]), tl_drop]
    unfold spO
    rw [seq_is rfl, tl_drop, h4]
  have hO4 : ∀ {x : Nat} {c : Int}, failO i4 f (valueO (tl s i4)) = some (x, c) → failO k f (attrO k (tl s k)) = some (x, c) := by
    intro x c h
    rw [hO3, failO_on, failO_on, failO_on, failO_on, failO_map, show k + nm (tl s k) + wh (tl s e1) + 1 + wh (tl s (i2 + 1)) = i4 by omega]
    exact h
  have hlt4 : i4 < s.size := by
    have := hd_ne (l := tl s i4) (by rw [hq]; rcases hqq with rfl | rfl <;> decide)
    rw [tl_length] at this; omega
  have hq4 : s[i4].toNat = q := by rw [← hd_tl hlt4]; exact hq
  have HTX := Lib.hid (dText_any s (i4 + 1) q true hqq (by omega) hs h0)
  have hw41 : wrap64 ((i4 : Int) + 1) = (i4 : Int) + 1 := Go.IntWalk.wrap64_in _ (by omega)
  rw [show ((i4 + 1 : Nat) : Int) = (i4 : Int) + 1 by push_cast; rfl] at HTX
  have hi4z : (i4 : Int) < (s.size : Int) := Int.ofNat_lt.2 hlt4
  have pi4 : (0 : Int) ≤ (i4 : Int) := Int.natCast_nonneg _
  have hV0 : valueO (tl s i4) = ((wholeO true q (tl s (i4 + 1))).more 1).on 1 := by
    rw [valueO_whole, if_neg (by rw [hq]; rintro ⟨e1, e2⟩; rcases hqq with h | h; exact e1 h; exact e2 h), hq, tl_drop]
  have HA34 := Lib.hid (dAt_is s ⟨#[34]⟩ i4 (decide (q = 34)) (by show _ = Lib.hasPrefix (tl s i4) [34]; rw [at_hd _ _ _ (by decide), hq]; rfl) hi4 (by omega) (by show 1 ≤ 140737488355328; omega))
  have HA39 := Lib.hid (dAt_is s ⟨#[39]⟩ i4 (decide (q = 39)) (by show _ = Lib.hasPrefix (tl s i4) [39]; rw [at_hd _ _ _ (by decide), hq]; rfl) hi4 (by omega) (by show 1 ≤ 140737488355328; omega))
  have HX : Hid (failO k f (attrO k (tl s k)) = some (i4 + 1 + d, c) ∧ c ≠ 0) := Lib.hid ⟨hO4 (by rw [hV0, hw]; show some (i4 + (d + 1), c) = _; rw [show i4 + (d + 1) = i4 + 1 + d by omega]), hc⟩
  rw [hw] at HTX
  have hcz : (c == 0) = false := beq_eq_false_iff_ne.2 hc
  have hcz2 : (c != 0) = true := bne_iff_ne.2 hc
  obtain ⟨a, ha⟩ : ∃ a, a = i4 + 1 + d := ⟨_, rfl⟩
  rw [← ha] at HX
  have HTY : Hid (∀ W : World, Calls Tryz.prog 29 #[.string s, .int .i64 ((i4 : Int) + 1), .int .u8 (q : Int), .bool true] W fun e w' => Below W.heap.size W w' ∧ e = .returned (.tuple #[.string ⟨#[]⟩, .int .i64 (a : Int), .agg #[.int .i64 (a : Int), .int .i64 c]])) := Lib.hid (by rw [ha]; exact HTX.out)
  clear HTX
  clear h61 hO1 hO2 hO3 hO4 he hn h2 h4 hwl hnl hwl2 h0 hV0 ha hw hc
  rcases hqq with rfl | rfl
  all_goals
    simp only [decide_true, Nat.reduceEqDiff, decide_false] at HA34 HA39
    go_enter Tryz.func46, Tryz.ntmps46
    go_wp2_with fail
    obtain ⟨W3, hW3⟩ : ∃ W3, W3 = ((w.alloc (.cells #[.string ⟨#[]⟩, .string ⟨#[]⟩, .int .i64 0] 38)).alloc (.cells #[.int .i64 0, .int .i64 0] 27)).alloc (.cells #[.string ⟨#[]⟩, .string ⟨#[]⟩, .int .i64 (k : Int)] 38) := ⟨_, rfl⟩
    obtain ⟨g6, g8, g9, gb, gs⟩ := boxes3 w _ _ _ _ _ _ W3 hW3
    rw [← hW3]
    clear hW3
    refine (HN.out _).mono ?_
    rintro e w1 ⟨rfl, hb1⟩
    have o6 := g6.below hb1 (by omega)
    have o8 := g8.below hb1 (by omega)
    have o9 := g9.below hb1 (by omega)
    have obel : Below w.heap.size w w1 := gb.trans (hb1.mono (by omega))
    have OS : Hid (w.heap.size + 1 + 1 + 1 ≤ w1.heap.size) := Lib.hid (by have := hb1.size; omega)
    have ne69 : w.heap.size ≠ w.heap.size + 1 + 1 := by omega
    have ne89 : w.heap.size + 1 ≠ w.heap.size + 1 + 1 := by omega
    have ne86 : w.heap.size + 1 ≠ w.heap.size := by omega
    have lo6 : w.heap.size ≤ w.heap.size := Nat.le_refl _
    have lo8 : w.heap.size ≤ w.heap.size + 1 := by omega
    have oc := o9.c (j := 0) rfl
    have oz := o9.fz 0
    have hx9 : Bx 38 (w1.setCell ⟨w.heap.size + 1 + 1, 0, none⟩ (.string NM)) (w.heap.size + 1 + 1) #[.string NM, .string ⟨#[]⟩, .int .i64 (k : Int)] := o9.set 0 (.string NM)
    have hx6 := o6.other (r := w.heap.size + 1 + 1) (by omega) 0 (.string NM)
    have hx8 := o8.other (r := w.heap.size + 1 + 1) (by omega) 0 (.string NM)
    have hbel : Below w.heap.size w (w1.setCell ⟨w.heap.size + 1 + 1, 0, none⟩ (.string NM)) := Below.setCell obel (p := ⟨w.heap.size + 1 + 1, 0, none⟩) (by show w.heap.size ≤ w.heap.size + 1 + 1; omega) _
    have HX9 := Lib.hid hx9
    have HX6 := Lib.hid hx6
    have HX8 := Lib.hid hx8
    have HBE := Lib.hid hbel
    have OS5H : Hid (w.heap.size + 1 + 1 + 1 ≤ (w1.setCell ⟨w.heap.size + 1 + 1, 0, none⟩ (.string NM)).heap.size) := Lib.hid (by simp; exact OS.out)
    clear hx9 hx6 hx8 hbel g6 g8 g9 gb gs hb1 o6 o8 o9 obel
    go_wp2_with (first
      | (go_at_call 45; ((with_reducible refine (HB1.out _).mono ?_); rintro e w2 ⟨rfl, rfl⟩))
      | (go_at_call 23; ((with_reducible refine (HA61.out _).mono ?_); rintro e w4 ⟨rfl, rfl⟩))
      | (go_at_call 45; ((with_reducible refine (HB2.out _).mono ?_); rintro e w3 ⟨rfl, rfl⟩))
      | (go_at_call 23; ((with_reducible refine (HA34.out _).mono ?_); rintro e w4 ⟨rfl, rfl⟩))
      | (go_at_call 23; ((with_reducible refine (HA39.out _).mono ?_); rintro e w4 ⟨rfl, rfl⟩)))
    have hx9 := HX9.out
    have hx6 := HX6.out
    have hx8 := HX8.out
    have hbel := HBE.out
    generalize w1.setCell ⟨w.heap.size + 1 + 1, 0, none⟩ (.string NM) = W5 at *
    clear HX9 HX6 HX8 HBE oc oz
    refine (HTY.out _).mono ?_
    rintro e w6 ⟨hb6, rfl⟩
    have hs6 := hb6.size
    have OS5 := OS5H.out
    have gx9 := hx9.below hb6 (by omega)
    have gx6 := hx6.below hb6 (by omega)
    have gx8 := hx8.below hb6 (by omega)
    have gbel := hbel.trans (hb6.mono (by omega))
    have lb13 : w.heap.size + 1 + 1 + 1 ≤ w6.heap.size := by omega
    clear hx9 hx6 hx8 hbel OS5 OS5H OS hb6 hs6
    go_wp2_with fail
    have hx13 := Bx.new w6 27 #[.int .i64 (a : Int), .int .i64 c]
    have hx9 := gx9.alloc (.cells #[.int .i64 (a : Int), .int .i64 c] 27)
    have hx6 := gx6.alloc (.cells #[.int .i64 (a : Int), .int .i64 c] 27)
    have hx8 := gx8.alloc (.cells #[.int .i64 (a : Int), .int .i64 c] 27)
    have hbel := gbel.alloc (by omega) (.cells #[.int .i64 (a : Int), .int .i64 c] 27)
    clear gx9 gx6 gx8 gbel
    generalize w6.alloc (.cells #[.int .i64 (a : Int), .int .i64 c] 27) = W7 at *
    generalize w6.heap.size = b13 at *
    have ne613 : w.heap.size ≠ b13 := by omega
    have ne813 : w.heap.size + 1 ≠ b13 := by omega
    obtain ⟨V, hV⟩ : ∃ V, V = W7.drew := ⟨_, rfl⟩
    have v9 : Bx 38 V (w.heap.size + 1 + 1) #[.string NM, .string ⟨#[]⟩, .int .i64 (k : Int)] := by rw [hV]; exact hx9
    have v6 : Bx 38 V w.heap.size #[.string ⟨#[]⟩, .string ⟨#[]⟩, .int .i64 0] := by rw [hV]; exact hx6
    have v8 : Bx 27 V (w.heap.size + 1) #[.int .i64 0, .int .i64 0] := by rw [hV]; exact hx8
    have vb : Below w.heap.size w V := by rw [hV]; exact Below.drew hbel
    have v13 : Bx 27 V b13 #[.int .i64 (a : Int), .int .i64 c] := by rw [hV]; exact hx13
    obtain ⟨A, hA⟩ : ∃ A, A = V := ⟨_, rfl⟩
    have a9 := v9
    have a6 := v6
    have a8 := v8
    have a13 := v13
    have ab := vb
    rw [← hA] at a9 a6 a8 a13 ab
    obtain ⟨B, hB⟩ : ∃ B, B = (((A.setCell ⟨w.heap.size, 0, none⟩ (.string NM)).setCell ⟨w.heap.size, 1, none⟩ (.string ⟨#[]⟩)).setCell ⟨w.heap.size, 2, none⟩ (.int .i64 (k : Int))) := ⟨_, rfl⟩
    have b9 : Bx 38 B (w.heap.size + 1 + 1) #[.string NM, .string ⟨#[]⟩, .int .i64 (k : Int)] := by rw [hB]; exact (((a9.other ne69 _ _).other ne69 _ _).other ne69 _ _)
    have b6 : Bx 38 B w.heap.size #[.string NM, .string ⟨#[]⟩, .int .i64 (k : Int)] := by rw [hB]; exact (((a6.set 0 (.string NM)).set 1 (.string ⟨#[]⟩)).set 2 (.int .i64 (k : Int)))
    have b8 : Bx 27 B (w.heap.size + 1) #[.int .i64 0, .int .i64 0] := by rw [hB]; exact (((a8.other (Ne.symm ne86) _ _).other (Ne.symm ne86) _ _).other (Ne.symm ne86) _ _)
    have bb : Below w.heap.size w B := by rw [hB]; exact (Below.setCell (Below.setCell (Below.setCell ab (p := ⟨w.heap.size, 0, none⟩) lo6 _) (p := ⟨w.heap.size, 1, none⟩) lo6 _) (p := ⟨w.heap.size, 2, none⟩) lo6 _)
    have bq13 : Bx 27 B b13 #[.int .i64 (a : Int), .int .i64 c] := by rw [hB]; exact (((a13.other ne613 _ _).other ne613 _ _).other ne613 _ _)
    obtain ⟨C, hC⟩ : ∃ C, C = ((B.setCell ⟨(w.heap.size + 1), 0, none⟩ (.int .i64 (a : Int))).setCell ⟨(w.heap.size + 1), 1, none⟩ (.int .i64 c)) := ⟨_, rfl⟩
    have c9 : Bx 38 C (w.heap.size + 1 + 1) #[.string NM, .string ⟨#[]⟩, .int .i64 (k : Int)] := by rw [hC]; exact ((b9.other ne89 _ _).other ne89 _ _)
    have c6 : Bx 38 C w.heap.size #[.string NM, .string ⟨#[]⟩, .int .i64 (k : Int)] := by rw [hC]; exact ((b6.other ne86 _ _).other ne86 _ _)
    have c8 : Bx 27 C (w.heap.size + 1) #[.int .i64 (a : Int), .int .i64 c] := by rw [hC]; exact ((b8.set 0 (.int .i64 (a : Int))).set 1 (.int .i64 c))
    have cb : Below w.heap.size w C := by rw [hC]; exact (Below.setCell (Below.setCell bb (p := ⟨(w.heap.size + 1), 0, none⟩) lo8 _) (p := ⟨(w.heap.size + 1), 1, none⟩) lo8 _)
    have c13 : Bx 27 C b13 #[.int .i64 (a : Int), .int .i64 c] := by rw [hC]; exact ((bq13.other ne813 _ _).other ne813 _ _)
    have X0 := Lib.hid (fun ls => rtW_cell (i := 99) (j := 3) (k := 5) (ls := ls) (p := ⟨(w.heap.size + 1 + 1), 0, none⟩) (v9.c (j := 0) rfl) (a9.c (j := 0) rfl) (b9.c (j := 0) rfl) (c9.c (j := 0) rfl))
    have X1 := Lib.hid (fun ls => rtW_cell (i := 99) (j := 3) (k := 5) (ls := ls) (p := ⟨(w.heap.size + 1 + 1), 1, none⟩) (v9.c (j := 1) rfl) (a9.c (j := 1) rfl) (b9.c (j := 1) rfl) (c9.c (j := 1) rfl))
    have X2 := Lib.hid (fun ls => rtW_cell (i := 99) (j := 3) (k := 5) (ls := ls) (p := ⟨(w.heap.size + 1 + 1), 2, none⟩) (v9.c (j := 2) rfl) (a9.c (j := 2) rfl) (b9.c (j := 2) rfl) (c9.c (j := 2) rfl))
    have Y0 := Lib.hid (fun ls => rtW_cell (i := 99) (j := 3) (k := 5) (ls := ls) (p := ⟨b13, 0, none⟩) (v13.c (j := 0) rfl) (a13.c (j := 0) rfl) (bq13.c (j := 0) rfl) (c13.c (j := 0) rfl))
    have Y1 := Lib.hid (fun ls => rtW_cell (i := 99) (j := 3) (k := 5) (ls := ls) (p := ⟨b13, 1, none⟩) (v13.c (j := 1) rfl) (a13.c (j := 1) rfl) (bq13.c (j := 1) rfl) (c13.c (j := 1) rfl))
    have A6 := Lib.hid a6
    have B8 := Lib.hid b8
    have CE := Lib.hid (And.intro c6 (And.intro c8 cb))
    have HV := Lib.hid hV
    have HA := Lib.hid hA
    have HB := Lib.hid hB
    have HC := Lib.hid hC
    clear v9 v6 v8 vb a9 a6 a8 ab b9 b6 b8 bb c9 c6 c8 cb hV hA hB hC hx9 hx6 hx8 hbel v13 a13 bq13 c13 hx13
    refine wp_region_chain (fun n => (#[.agg #[.string NM, .string ⟨#[]⟩, .int .i64 (k : Int)], .int .i64 (i4 : Int), .agg #[.int .i64 (a : Int), .int .i64 c], undef, .int .i64 (i4 : Int), undef] : Array Value).getD n undef) (rtW 99 3 5 V A B C) (by kernel_rfl) (by kernel_rfl) (by rw [HV.out]; rfl) ?_ ?_
    · refine ⟨?_, ?_, ?_, ?_, ?_, ?_, trivial⟩
      · intro a0 ls hcl hi hd hoff hf
        left
        refine ⟨rfl, ?_⟩
        have e0 : a0.tmps.getD 9 undef = .pointer (some ⟨(w.heap.size + 1 + 1), 0, none⟩) := hoff.slot 9 (no_dst (by kernel_rfl))
        have k0 := X0.out ls
        have k1 := X1.out ls
        have k2 := X2.out ls
        go_simp
        all_goals first | exact ⟨rfl, rfl⟩ | exact rfl
      · intro a0 ls hcl hi hd hoff hf
        left
        refine ⟨rfl, ?_⟩
        have e0 : a0.tmps.getD 2 undef = .int .i64 (i4 : Int) := hoff.slot 2 (no_dst (by kernel_rfl))
        go_simp
        all_goals first | exact ⟨rfl, rfl⟩ | exact rfl
      · intro a0 ls hcl hi hd hoff hf
        left
        refine ⟨rfl, ?_⟩
        have e0 : a0.tmps.getD 13 undef = .pointer (some ⟨b13, 0, none⟩) := hoff.slot 13 (no_dst (by kernel_rfl))
        have k0 := Y0.out ls
        have k1 := Y1.out ls
        go_simp
        all_goals first | exact ⟨rfl, rfl⟩ | exact rfl
      · intro a0 ls hcl hi hd hoff hf
        left
        refine ⟨rfl, ?_⟩
        have e0 : a0.tmps.getD 6 undef = .pointer (some ⟨w.heap.size, 0, none⟩) := hoff.slot 6 (no_dst (by kernel_rfl))
        have e1 : a0.tmps.getD 80 undef = .agg #[.string NM, .string ⟨#[]⟩, .int .i64 (k : Int)] := hf 0 _ (hd 0 rfl) rfl
        have h8 : ls 5 = false := hcl.no (hcl.no hi (i := 4) rfl rfl) rfl rfl
        have hw : rtW 99 3 5 V A B C (updB ls 3) = B := rtW_j h8 rfl
        rw [hw, rtW_n h8 hi HA.out]
        have k0 := A6.out.c (j := 0) rfl
        have z0 := A6.out.fz 0
        have k1 := A6.out.c (j := 1) rfl
        have z1 := A6.out.fz 1
        have k2 := A6.out.c (j := 2) rfl
        have z2 := A6.out.fz 2
        have hBB := HB.out
        go_simp
        all_goals first | exact ⟨rfl, hBB.symm⟩ | exact hBB.symm
      · intro a0 ls hcl hi hd hoff hf
        left
        refine ⟨rfl, ?_⟩
        have e0 : a0.tmps.getD 81 undef = .int .i64 (i4 : Int) := hf 1 _ (hd 1 rfl) rfl
        go_simp
        all_goals first | exact ⟨rfl, rfl⟩ | exact rfl
      · intro a0 ls hcl hi hd hoff hf
        left
        refine ⟨rfl, ?_⟩
        have e0 : a0.tmps.getD 8 undef = .pointer (some ⟨(w.heap.size + 1), 0, none⟩) := hoff.slot 8 (no_dst (by kernel_rfl))
        have e1 : a0.tmps.getD 82 undef = .agg #[.int .i64 (a : Int), .int .i64 c] := hf 2 _ (hd 2 rfl) rfl
        have hw : rtW 99 3 5 V A B C (updB ls 5) = C := rtW_k rfl
        have h6 : ls 3 = true := hcl 4 _ rfl (hd 4 rfl) 3 rfl
        rw [hw, rtW_j hi h6]
        have k0 := B8.out.c (j := 0) rfl
        have z0 := B8.out.fz 0
        have k1 := B8.out.c (j := 1) rfl
        have z1 := B8.out.fz 1
        have hCC := HC.out
        go_simp
        all_goals first | exact ⟨rfl, hCC.symm⟩ | exact hCC.symm
    · intro a0 ls hl hoff hf
      rw [rtW_k (hl 5 (by decide))]
      rename_i hK
      have e7 : a0.tmps.getD 7 undef = .int .i64 (i4 : Int) := hf 4 _ rfl
      have e6 : a0.tmps.getD 6 undef = .pointer (some ⟨w.heap.size, 0, none⟩) := hoff.slot 6 (no_dst (by kernel_rfl))
      have e8 : a0.tmps.getD 8 undef = .pointer (some ⟨w.heap.size + 1, 0, none⟩) := hoff.slot 8 (no_dst (by kernel_rfl))
      have e6' : a0.tmps[6]?.getD undef = .pointer (some ⟨w.heap.size, 0, none⟩) := by simpa using e6
      have e7' : a0.tmps[7]?.getD undef = .int .i64 (i4 : Int) := by simpa using e7
      have e8' : a0.tmps[8]?.getD undef = .pointer (some ⟨w.heap.size + 1, 0, none⟩) := by simpa using e8
      have x0 := CE.out.1.c (j := 0) rfl
      have x1 := CE.out.1.c (j := 1) rfl
      have x2 := CE.out.1.c (j := 2) rfl
      have y0 := CE.out.2.1.c (j := 0) rfl
      have y1 := CE.out.2.1.c (j := 1) rfl
      refine hK _ _ ?_
      go_wp2
      refine bodyPost_ret (v := .tuple #[.agg #[.string NM, .string ⟨#[]⟩, .int .i64 (k : Int)], .int .i64 (i4 : Int), fltV a c]) (by simp only [results, Tryz.results46]; simp [results, go_sem, e6', e7', e8', x0, x1, x2, y0, y1]) hoff.defers ?_
      exact AtPost.fail HX.out.1 HX.out.2 CE.out.2.2
set_option maxHeartbeats 4000000 in
set_option maxRecDepth 100000 in
theorem dAttr_fu (s : ByteArray) (f k e1 i2 : Nat) (NM : ByteArray) (hk : k ≤ s.size) (hs : s.size ≤ 65536) (he : k + nm (tl s k) = e1) (hn : nm (tl s k) ≠ 0) (h2 : e1 + wh (tl s e1) = i2) (hNM : s.extract k e1 = NM) (h61 : hd (tl s i2) = 61) (i4 : Nat) (h4 : i2 + 1 + wh (tl s (i2 + 1)) = i4) (q : Nat) (hq : hd (tl s i4) = q) (hqq : q = 34 ∨ q = 39) (h0 : ∀ b ∈ s.data.toList, b ≠ 0) (hw : wholeO true q (tl s (i4 + 1)) = .un) (w : World) :
    Calls Tryz.prog 46 #[.string s, .int .i64 (f : Int), .int .i64 (k : Int)] w (AtPost w k f (attrO k (tl s k))) := by
  have hnl := nm_le (tl s k)
  rw [tl_length] at hnl
  have hke : k < e1 := by omega
  have hes : e1 ≤ s.size := by omega
  have hwl := wh_le (tl s e1)
  rw [tl_length] at hwl
  have hi2 : i2 ≤ s.size := by omega
  have HN := Lib.hid (dName_any s k e1 he hk hs)
  have HB1 := Lib.hid (dBlanks_any s e1 i2 h2 hes hs)
  have hnek : ((e1 : Int) == (k : Int)) = false := beq_eq_false_iff_ne.2 (by omega)
  have hez : (k : Int) ≤ (e1 : Int) := by omega
  have hez2 : (e1 : Int) ≤ (s.size : Int) := by omega
  have hO1 : attrO k (tl s k) = ((spO (tl s e1)).seq (tl s e1) fun _ _ l2 => (mustO 61 l2).seq l2 fun _ _ l3 => (spO l3).seq l3 fun _ _ l4 => (valueO l4).map fun v => ⟨(tl s k).take (nm (tl s k)), v, k⟩).on (nm (tl s k)) := by
    unfold attrO
    rw [seq_is (show nameO (tl s k) = .ok ((tl s k).take (nm (tl s k))) (nm (tl s k)) by unfold nameO; rw [if_neg hn]), tl_drop, he]
  have hO2 : attrO k (tl s k) = (((mustO 61 (tl s i2)).seq (tl s i2) fun _ _ l3 => (spO l3).seq l3 fun _ _ l4 => (valueO l4).map fun v => ⟨(tl s k).take (nm (tl s k)), v, k⟩).on (wh (tl s e1))).on (nm (tl s k)) := by
    rw [hO1]; unfold spO; rw [seq_is rfl, tl_drop, h2]
  have hlt2 : i2 < s.size := by
    have := hd_ne (l := tl s i2) (by rw [h61]; decide)
    rw [tl_length] at this; omega
  have hwl2 := wh_le (tl s (i2 + 1))
  rw [tl_length] at hwl2
  have hi4 : i4 ≤ s.size := by omega
  have HB2 := Lib.hid (dBlanks_any s (i2 + 1) i4 h4 (by omega) hs)
  rw [show ((i2 + 1 : Nat) : Int) = (i2 : Int) + 1 by push_cast; rfl] at HB2
  have hw21 : wrap64 ((i2 : Int) + 1) = (i2 : Int) + 1 := Go.IntWalk.wrap64_in _ (by omega)
  have HA61 := Lib.hid (dAt_is s ⟨#[61]⟩ i2 true (by show true = Lib.hasPrefix (tl s i2) [61]; rw [at_hd _ _ _ (by decide)]; exact (decide_eq_true h61).symm) hi2 (by omega) (by show 1 ≤ 140737488355328; omega))
  have hO3 : attrO k (tl s k) = (((((valueO (tl s i4)).map fun v => (⟨(tl s k).take (nm (tl s k)), v, k⟩ : At3)).on (wh (tl s (i2 + 1)))).on 1).on (wh (tl s e1))).on (nm (tl s k)) := by
    rw [hO2, seq_is (show mustO 61 (tl s i2) = .ok () 1 by unfold mustO; rw [if_pos h61]), tl_drop]
    unfold spO
    rw [seq_is rfl, tl_drop, h4]
  have hO4 : ∀ {x : Nat} {c : Int}, failO i4 f (valueO (tl s i4)) = some (x, c) → failO k f (attrO k (tl s k)) = some (x, c) := by
    intro x c h
    rw [hO3, failO_on, failO_on, failO_on, failO_on, failO_map, show k + nm (tl s k) + wh (tl s e1) + 1 + wh (tl s (i2 + 1)) = i4 by omega]
    exact h
  have hlt4 : i4 < s.size := by
    have := hd_ne (l := tl s i4) (by rw [hq]; rcases hqq with rfl | rfl <;> decide)
    rw [tl_length] at this; omega
  have hq4 : s[i4].toNat = q := by rw [← hd_tl hlt4]; exact hq
  have HTX := Lib.hid (dText_any s (i4 + 1) q true hqq (by omega) hs h0)
  have hw41 : wrap64 ((i4 : Int) + 1) = (i4 : Int) + 1 := Go.IntWalk.wrap64_in _ (by omega)
  rw [show ((i4 + 1 : Nat) : Int) = (i4 : Int) + 1 by push_cast; rfl] at HTX
  have hi4z : (i4 : Int) < (s.size : Int) := Int.ofNat_lt.2 hlt4
  have pi4 : (0 : Int) ≤ (i4 : Int) := Int.natCast_nonneg _
  have hV0 : valueO (tl s i4) = ((wholeO true q (tl s (i4 + 1))).more 1).on 1 := by
    rw [valueO_whole, if_neg (by rw [hq]; rintro ⟨e1, e2⟩; rcases hqq with h | h; exact e1 h; exact e2 h), hq, tl_drop]
  have HA34 := Lib.hid (dAt_is s ⟨#[34]⟩ i4 (decide (q = 34)) (by show _ = Lib.hasPrefix (tl s i4) [34]; rw [at_hd _ _ _ (by decide), hq]; rfl) hi4 (by omega) (by show 1 ≤ 140737488355328; omega))
  have HA39 := Lib.hid (dAt_is s ⟨#[39]⟩ i4 (decide (q = 39)) (by show _ = Lib.hasPrefix (tl s i4) [39]; rw [at_hd _ _ _ (by decide), hq]; rfl) hi4 (by omega) (by show 1 ≤ 140737488355328; omega))
  have HX : Hid (failO k f (attrO k (tl s k)) = some (f, 84) ∧ (84 : Int) ≠ 0) := Lib.hid ⟨hO4 (by rw [hV0, hw]; rfl), by decide⟩
  rw [hw] at HTX
  have HTY : Hid (∀ W : World, Calls Tryz.prog 29 #[.string s, .int .i64 ((i4 : Int) + 1), .int .u8 (q : Int), .bool true] W fun e w' => Below W.heap.size W w' ∧ ∃ t : List UInt8, e = .returned (.tuple #[.string ⟨t.toArray⟩, .int .i64 (s.size : Int), noF])) := Lib.hid HTX.out
  clear HTX
  clear h61 hO1 hO2 hO3 hO4 he hn h2 h4 hwl hnl hwl2 h0 hV0 hw
  rcases hqq with rfl | rfl
  all_goals
    simp only [decide_true, Nat.reduceEqDiff, decide_false] at HA34 HA39
    go_enter Tryz.func46, Tryz.ntmps46
    go_wp2_with fail
    obtain ⟨W3, hW3⟩ : ∃ W3, W3 = ((w.alloc (.cells #[.string ⟨#[]⟩, .string ⟨#[]⟩, .int .i64 0] 38)).alloc (.cells #[.int .i64 0, .int .i64 0] 27)).alloc (.cells #[.string ⟨#[]⟩, .string ⟨#[]⟩, .int .i64 (k : Int)] 38) := ⟨_, rfl⟩
    obtain ⟨g6, g8, g9, gb, gs⟩ := boxes3 w _ _ _ _ _ _ W3 hW3
    rw [← hW3]
    clear hW3
    refine (HN.out _).mono ?_
    rintro e w1 ⟨rfl, hb1⟩
    have o6 := g6.below hb1 (by omega)
    have o8 := g8.below hb1 (by omega)
    have o9 := g9.below hb1 (by omega)
    have obel : Below w.heap.size w w1 := gb.trans (hb1.mono (by omega))
    have OS : Hid (w.heap.size + 1 + 1 + 1 ≤ w1.heap.size) := Lib.hid (by have := hb1.size; omega)
    have ne69 : w.heap.size ≠ w.heap.size + 1 + 1 := by omega
    have ne89 : w.heap.size + 1 ≠ w.heap.size + 1 + 1 := by omega
    have ne86 : w.heap.size + 1 ≠ w.heap.size := by omega
    have lo6 : w.heap.size ≤ w.heap.size := Nat.le_refl _
    have lo8 : w.heap.size ≤ w.heap.size + 1 := by omega
    have oc := o9.c (j := 0) rfl
    have oz := o9.fz 0
    have hx9 : Bx 38 (w1.setCell ⟨w.heap.size + 1 + 1, 0, none⟩ (.string NM)) (w.heap.size + 1 + 1) #[.string NM, .string ⟨#[]⟩, .int .i64 (k : Int)] := o9.set 0 (.string NM)
    have hx6 := o6.other (r := w.heap.size + 1 + 1) (by omega) 0 (.string NM)
    have hx8 := o8.other (r := w.heap.size + 1 + 1) (by omega) 0 (.string NM)
    have hbel : Below w.heap.size w (w1.setCell ⟨w.heap.size + 1 + 1, 0, none⟩ (.string NM)) := Below.setCell obel (p := ⟨w.heap.size + 1 + 1, 0, none⟩) (by show w.heap.size ≤ w.heap.size + 1 + 1; omega) _
    have HX9 := Lib.hid hx9
    have HX6 := Lib.hid hx6
    have HX8 := Lib.hid hx8
    have HBE := Lib.hid hbel
    have OS5H : Hid (w.heap.size + 1 + 1 + 1 ≤ (w1.setCell ⟨w.heap.size + 1 + 1, 0, none⟩ (.string NM)).heap.size) := Lib.hid (by simp; exact OS.out)
    clear hx9 hx6 hx8 hbel g6 g8 g9 gb gs hb1 o6 o8 o9 obel
    go_wp2_with (first
      | (go_at_call 45; ((with_reducible refine (HB1.out _).mono ?_); rintro e w2 ⟨rfl, rfl⟩))
      | (go_at_call 23; ((with_reducible refine (HA61.out _).mono ?_); rintro e w4 ⟨rfl, rfl⟩))
      | (go_at_call 45; ((with_reducible refine (HB2.out _).mono ?_); rintro e w3 ⟨rfl, rfl⟩))
      | (go_at_call 23; ((with_reducible refine (HA34.out _).mono ?_); rintro e w4 ⟨rfl, rfl⟩))
      | (go_at_call 23; ((with_reducible refine (HA39.out _).mono ?_); rintro e w4 ⟨rfl, rfl⟩)))
    have hx9 := HX9.out
    have hx6 := HX6.out
    have hx8 := HX8.out
    have hbel := HBE.out
    generalize w1.setCell ⟨w.heap.size + 1 + 1, 0, none⟩ (.string NM) = W5 at *
    clear HX9 HX6 HX8 HBE oc oz
    refine (HTY.out _).mono ?_
    rintro e w6 ⟨hb6, t, rfl⟩
    have hs6 := hb6.size
    have OS5 := OS5H.out
    have gx9 := hx9.below hb6 (by omega)
    have gx6 := hx6.below hb6 (by omega)
    have gx8 := hx8.below hb6 (by omega)
    have gbel := hbel.trans (hb6.mono (by omega))
    have lb13 : w.heap.size + 1 + 1 + 1 ≤ w6.heap.size := by omega
    have hx9 := gx9.alloc (.cells #[.int .i64 0, .int .i64 0] 27)
    have hx6 := gx6.alloc (.cells #[.int .i64 0, .int .i64 0] 27)
    have hx8 := gx8.alloc (.cells #[.int .i64 0, .int .i64 0] 27)
    have HBL := Lib.hid (gbel.alloc (by omega) (.cells #[.int .i64 0, .int .i64 0] 27))
    have xo0 := hx9.c (j := 0) rfl
    have xo1 := hx9.c (j := 1) rfl
    have xo2 := hx9.c (j := 2) rfl
    have xf0 := hx9.fz 0
    have xf1 := hx9.fz 1
    have yo0 := hx6.c (j := 0) rfl
    have yo1 := hx6.c (j := 1) rfl
    have yo2 := hx6.c (j := 2) rfl
    have yf0 := hx6.fz 0
    have yf1 := hx6.fz 1
    have yf2 := hx6.fz 2
    have zo0 := hx8.c (j := 0) rfl
    have zo1 := hx8.c (j := 1) rfl
    have zf0 := hx8.fz 0
    have zf1 := hx8.fz 1
    have HB6 := Lib.hid hx6
    have HB8 := Lib.hid hx8
    clear OS5 OS5H OS hb6 hs6 hx9 hx6 hx8 hbel gx9 gx6 gx8 gbel lb13
    go_wp2_with fail
    have f6 := (((((HB6.out.set 0 (.string NM)).set 1 (.string ⟨#[]⟩)).set 2 (.int .i64 (k : Int))).other ne86 0 (.int .i64 (f : Int))).other ne86 1 (.int .i64 84))
    have f8 := (((((HB8.out.other (Ne.symm ne86) 0 (.string NM)).other (Ne.symm ne86) 1 (.string ⟨#[]⟩)).other (Ne.symm ne86) 2 (.int .i64 (k : Int))).set 0 (.int .i64 (f : Int))).set 1 (.int .i64 84))
    have fb := (Below.setCell (Below.setCell (Below.setCell (Below.setCell (Below.setCell HBL.out (p := ⟨w.heap.size, 0, none⟩) lo6 (.string NM)) (p := ⟨w.heap.size, 1, none⟩) lo6 (.string ⟨#[]⟩)) (p := ⟨w.heap.size, 2, none⟩) lo6 (.int .i64 (k : Int))) (p := ⟨w.heap.size + 1, 0, none⟩) lo8 (.int .i64 (f : Int))) (p := ⟨w.heap.size + 1, 1, none⟩) lo8 (.int .i64 84))
    have x0 := f6.c (j := 0) rfl
    have x1 := f6.c (j := 1) rfl
    have x2 := f6.c (j := 2) rfl
    have y0 := f8.c (j := 0) rfl
    have y1 := f8.c (j := 1) rfl
    clear f6 f8
    refine bodyPost_ret (v := .tuple #[.agg #[.string NM, .string ⟨#[]⟩, .int .i64 (k : Int)], .int .i64 (i4 : Int), fltV f 84]) (by simp only [results, Tryz.results46]; simp [results, go_sem, x0, x1, x2, y0, y1]) rfl ?_
    exact AtPost.fail HX.out.1 HX.out.2 fb
theorem ok_to {S i4 n to : Nat} (h : n + 1 + 1 ≤ S - i4) (h4 : i4 < S) (e : to = i4 + 1 + n) : to < S := by omega
theorem ok_len {k a b c n e1 i2 i4 to : Nat} (he : k + c = e1) (h2 : e1 + b = i2) (h4 : i2 + 1 + a = i4) (ht : to = i4 + 1 + n) : k + (n + 1 + 1 + a + 1 + b + c) = to + 1 := by omega
theorem ok_sub {k c e1 : Nat} (he : k + c = e1) : e1 - k = c := by omega
theorem ok_wrap {S to : Nat} (h : to < S) (hs : S ≤ 65536) : wrap64 ((to : Int) + 1) = (to : Int) + 1 := Go.IntWalk.wrap64_in _ (by omega)
set_option maxHeartbeats 4000000 in
set_option maxRecDepth 100000 in
theorem dAttr_ok (s : ByteArray) (f k e1 i2 : Nat) (NM : ByteArray) (hk : k ≤ s.size) (hs : s.size ≤ 65536) (he : k + nm (tl s k) = e1) (hn : nm (tl s k) ≠ 0) (h2 : e1 + wh (tl s e1) = i2) (hNM : s.extract k e1 = NM) (h61 : hd (tl s i2) = 61) (i4 : Nat) (h4 : i2 + 1 + wh (tl s (i2 + 1)) = i4) (q : Nat) (hq : hd (tl s i4) = q) (hqq : q = 34 ∨ q = 39) (h0 : ∀ b ∈ s.data.toList, b ≠ 0) {t : List UInt8} {n : Nat} (hw : wholeO true q (tl s (i4 + 1)) = .ok t n) (w : World) :
    Calls Tryz.prog 46 #[.string s, .int .i64 (f : Int), .int .i64 (k : Int)] w (AtPost w k f (attrO k (tl s k))) := by
  have hnl := nm_le (tl s k)
  rw [tl_length] at hnl
  have hke : k < e1 := by omega
  have hes : e1 ≤ s.size := by omega
  have hwl := wh_le (tl s e1)
  rw [tl_length] at hwl
  have hi2 : i2 ≤ s.size := by omega
  have HN := Lib.hid (dName_any s k e1 he hk hs)
  have HB1 := Lib.hid (dBlanks_any s e1 i2 h2 hes hs)
  have hnek : ((e1 : Int) == (k : Int)) = false := beq_eq_false_iff_ne.2 (by omega)
  have hez : (k : Int) ≤ (e1 : Int) := by omega
  have hez2 : (e1 : Int) ≤ (s.size : Int) := by omega
  have hO1 : attrO k (tl s k) = ((spO (tl s e1)).seq (tl s e1) fun _ _ l2 => (mustO 61 l2).seq l2 fun _ _ l3 => (spO l3).seq l3 fun _ _ l4 => (valueO l4).map fun v => ⟨(tl s k).take (nm (tl s k)), v, k⟩).on (nm (tl s k)) := by
    unfold attrO
    rw [seq_is (show nameO (tl s k) = .ok ((tl s k).take (nm (tl s k))) (nm (tl s k)) by unfold nameO; rw [if_neg hn]), tl_drop, he]
  have hO2 : attrO k (tl s k) = (((mustO 61 (tl s i2)).seq (tl s i2) fun _ _ l3 => (spO l3).seq l3 fun _ _ l4 => (valueO l4).map fun v => ⟨(tl s k).take (nm (tl s k)), v, k⟩).on (wh (tl s e1))).on (nm (tl s k)) := by
    rw [hO1]; unfold spO; rw [seq_is rfl, tl_drop, h2]
  have hlt2 : i2 < s.size := by
    have := hd_ne (l := tl s i2) (by rw [h61]; decide)
    rw [tl_length] at this; omega
  have hwl2 := wh_le (tl s (i2 + 1))
  rw [tl_length] at hwl2
  have hi4 : i4 ≤ s.size := by omega
  have HB2 := Lib.hid (dBlanks_any s (i2 + 1) i4 h4 (by omega) hs)
  rw [show ((i2 + 1 : Nat) : Int) = (i2 : Int) + 1 by push_cast; rfl] at HB2
  have hw21 : wrap64 ((i2 : Int) + 1) = (i2 : Int) + 1 := Go.IntWalk.wrap64_in _ (by omega)
  have HA61 := Lib.hid (dAt_is s ⟨#[61]⟩ i2 true (by show true = Lib.hasPrefix (tl s i2) [61]; rw [at_hd _ _ _ (by decide)]; exact (decide_eq_true h61).symm) hi2 (by omega) (by show 1 ≤ 140737488355328; omega))
  have hO3 : attrO k (tl s k) = (((((valueO (tl s i4)).map fun v => (⟨(tl s k).take (nm (tl s k)), v, k⟩ : At3)).on (wh (tl s (i2 + 1)))).on 1).on (wh (tl s e1))).on (nm (tl s k)) := by
    rw [hO2, seq_is (show mustO 61 (tl s i2) = .ok () 1 by unfold mustO; rw [if_pos h61]), tl_drop]
    unfold spO
    rw [seq_is rfl, tl_drop, h4]
  have hO4 : ∀ {x : Nat} {c : Int}, failO i4 f (valueO (tl s i4)) = some (x, c) → failO k f (attrO k (tl s k)) = some (x, c) := by
    intro x c h
    rw [hO3, failO_on, failO_on, failO_on, failO_on, failO_map, show k + nm (tl s k) + wh (tl s e1) + 1 + wh (tl s (i2 + 1)) = i4 by omega]
    exact h
  have hlt4 : i4 < s.size := by
    have := hd_ne (l := tl s i4) (by rw [hq]; rcases hqq with rfl | rfl <;> decide)
    rw [tl_length] at this; omega
  have hq4 : s[i4].toNat = q := by rw [← hd_tl hlt4]; exact hq
  have HTX := Lib.hid (dText_any s (i4 + 1) q true hqq (by omega) hs h0)
  have hw41 : wrap64 ((i4 : Int) + 1) = (i4 : Int) + 1 := Go.IntWalk.wrap64_in _ (by omega)
  rw [show ((i4 + 1 : Nat) : Int) = (i4 : Int) + 1 by push_cast; rfl] at HTX
  have hi4z : (i4 : Int) < (s.size : Int) := Int.ofNat_lt.2 hlt4
  have pi4 : (0 : Int) ≤ (i4 : Int) := Int.natCast_nonneg _
  have hV0 : valueO (tl s i4) = ((wholeO true q (tl s (i4 + 1))).more 1).on 1 := by
    rw [valueO_whole, if_neg (by rw [hq]; rintro ⟨e1, e2⟩; rcases hqq with h | h; exact e1 h; exact e2 h), hq, tl_drop]
  have HA34 := Lib.hid (dAt_is s ⟨#[34]⟩ i4 (decide (q = 34)) (by show _ = Lib.hasPrefix (tl s i4) [34]; rw [at_hd _ _ _ (by decide), hq]; rfl) hi4 (by omega) (by show 1 ≤ 140737488355328; omega))
  have HA39 := Lib.hid (dAt_is s ⟨#[39]⟩ i4 (decide (q = 39)) (by show _ = Lib.hasPrefix (tl s i4) [39]; rw [at_hd _ _ _ (by decide), hq]; rfl) hi4 (by omega) (by show 1 ≤ 140737488355328; omega))
  have hVO : valueO (tl s i4) = .ok t (n + 1 + 1) := by rw [hV0, hw]; rfl
  have hVL := (valueO_le hVO).2
  rw [tl_length] at hVL
  obtain ⟨to, hto⟩ : ∃ to, to = i4 + 1 + n := ⟨_, rfl⟩
  have htl : to < s.size := ok_to hVL hlt4 hto
  have HX : Hid (∃ N, attrO k (tl s k) = .ok ⟨(tl s k).take (nm (tl s k)), t, k⟩ N ∧ k + N = to + 1 ∧ (⟨((tl s k).take (nm (tl s k))).toArray⟩ : ByteArray) = NM) := Lib.hid ⟨n + 1 + 1 + wh (tl s (i2 + 1)) + 1 + wh (tl s e1) + nm (tl s k), by rw [hO3, hVO]; rfl, ok_len he h2 h4 hto, by rw [← hNM, ext_part, ok_sub he]⟩
  rw [hw] at HTX
  have HTY : Hid (∀ W : World, Calls Tryz.prog 29 #[.string s, .int .i64 ((i4 : Int) + 1), .int .u8 (q : Int), .bool true] W fun e w' => Below W.heap.size W w' ∧ e = .returned (.tuple #[.string ⟨t.toArray⟩, .int .i64 (to : Int), noF])) := Lib.hid (by rw [hto]; exact HTX.out)
  have htz : (to : Int) < (s.size : Int) := Int.ofNat_lt.2 htl
  have htn : ((to : Int) == (s.size : Int)) = false := beq_eq_false_iff_ne.2 (Int.ne_of_lt htz)
  have htw : wrap64 ((to : Int) + 1) = (to : Int) + 1 := ok_wrap htl hs
  clear HTX hVO hVL
  clear h61 hO1 hO2 hO3 hO4 he hn h2 h4 hwl hnl hwl2 h0 hV0 hw hto
  rcases hqq with rfl | rfl
  all_goals
    simp only [decide_true, Nat.reduceEqDiff, decide_false] at HA34 HA39
    go_enter Tryz.func46, Tryz.ntmps46
    go_wp2_with fail
    obtain ⟨W3, hW3⟩ : ∃ W3, W3 = ((w.alloc (.cells #[.string ⟨#[]⟩, .string ⟨#[]⟩, .int .i64 0] 38)).alloc (.cells #[.int .i64 0, .int .i64 0] 27)).alloc (.cells #[.string ⟨#[]⟩, .string ⟨#[]⟩, .int .i64 (k : Int)] 38) := ⟨_, rfl⟩
    obtain ⟨g6, g8, g9, gb, gs⟩ := boxes3 w _ _ _ _ _ _ W3 hW3
    rw [← hW3]
    clear hW3
    refine (HN.out _).mono ?_
    rintro e w1 ⟨rfl, hb1⟩
    have o6 := g6.below hb1 (by omega)
    have o8 := g8.below hb1 (by omega)
    have o9 := g9.below hb1 (by omega)
    have obel : Below w.heap.size w w1 := gb.trans (hb1.mono (by omega))
    have OS : Hid (w.heap.size + 1 + 1 + 1 ≤ w1.heap.size) := Lib.hid (by have := hb1.size; omega)
    have ne69 : w.heap.size ≠ w.heap.size + 1 + 1 := by omega
    have ne89 : w.heap.size + 1 ≠ w.heap.size + 1 + 1 := by omega
    have ne86 : w.heap.size + 1 ≠ w.heap.size := by omega
    have lo6 : w.heap.size ≤ w.heap.size := Nat.le_refl _
    have lo8 : w.heap.size ≤ w.heap.size + 1 := by omega
    have oc := o9.c (j := 0) rfl
    have oz := o9.fz 0
    have hx9 : Bx 38 (w1.setCell ⟨w.heap.size + 1 + 1, 0, none⟩ (.string NM)) (w.heap.size + 1 + 1) #[.string NM, .string ⟨#[]⟩, .int .i64 (k : Int)] := o9.set 0 (.string NM)
    have hx6 := o6.other (r := w.heap.size + 1 + 1) (by omega) 0 (.string NM)
    have hx8 := o8.other (r := w.heap.size + 1 + 1) (by omega) 0 (.string NM)
    have hbel : Below w.heap.size w (w1.setCell ⟨w.heap.size + 1 + 1, 0, none⟩ (.string NM)) := Below.setCell obel (p := ⟨w.heap.size + 1 + 1, 0, none⟩) (by show w.heap.size ≤ w.heap.size + 1 + 1; omega) _
    have HX9 := Lib.hid hx9
    have HX6 := Lib.hid hx6
    have HX8 := Lib.hid hx8
    have HBE := Lib.hid hbel
    have OS5H : Hid (w.heap.size + 1 + 1 + 1 ≤ (w1.setCell ⟨w.heap.size + 1 + 1, 0, none⟩ (.string NM)).heap.size) := Lib.hid (by simp; exact OS.out)
    clear hx9 hx6 hx8 hbel g6 g8 g9 gb gs hb1 o6 o8 o9 obel
    go_wp2_with (first
      | (go_at_call 45; ((with_reducible refine (HB1.out _).mono ?_); rintro e w2 ⟨rfl, rfl⟩))
      | (go_at_call 23; ((with_reducible refine (HA61.out _).mono ?_); rintro e w4 ⟨rfl, rfl⟩))
      | (go_at_call 45; ((with_reducible refine (HB2.out _).mono ?_); rintro e w3 ⟨rfl, rfl⟩))
      | (go_at_call 23; ((with_reducible refine (HA34.out _).mono ?_); rintro e w4 ⟨rfl, rfl⟩))
      | (go_at_call 23; ((with_reducible refine (HA39.out _).mono ?_); rintro e w4 ⟨rfl, rfl⟩)))
    have hx9 := HX9.out
    have hx6 := HX6.out
    have hx8 := HX8.out
    have hbel := HBE.out
    generalize w1.setCell ⟨w.heap.size + 1 + 1, 0, none⟩ (.string NM) = W5 at *
    clear HX9 HX6 HX8 HBE oc oz
    refine (HTY.out _).mono ?_
    rintro e w6 ⟨hb6, rfl⟩
    have hs6 := hb6.size
    have OS5 := OS5H.out
    have gx9 := hx9.below hb6 (by omega)
    have gx6 := hx6.below hb6 (by omega)
    have gx8 := hx8.below hb6 (by omega)
    have gbel := hbel.trans (hb6.mono (by omega))
    have lb13 : w.heap.size + 1 + 1 + 1 ≤ w6.heap.size := by omega
    have hx9 := gx9.alloc (.cells #[.int .i64 0, .int .i64 0] 27)
    have hx6 := gx6.alloc (.cells #[.int .i64 0, .int .i64 0] 27)
    have hx8 := gx8.alloc (.cells #[.int .i64 0, .int .i64 0] 27)
    have HBL := Lib.hid (gbel.alloc (by omega) (.cells #[.int .i64 0, .int .i64 0] 27))
    have xo0 := hx9.c (j := 0) rfl
    have xo1 := hx9.c (j := 1) rfl
    have xo2 := hx9.c (j := 2) rfl
    have xf0 := hx9.fz 0
    have xf1 := hx9.fz 1
    have yo0 := hx6.c (j := 0) rfl
    have yo1 := hx6.c (j := 1) rfl
    have yo2 := hx6.c (j := 2) rfl
    have yf0 := hx6.fz 0
    have yf1 := hx6.fz 1
    have yf2 := hx6.fz 2
    have zo0 := hx8.c (j := 0) rfl
    have zo1 := hx8.c (j := 1) rfl
    have zf0 := hx8.fz 0
    have zf1 := hx8.fz 1
    have HB6 := Lib.hid hx6
    have HB8 := Lib.hid hx8
    clear OS5 OS5H OS hb6 hs6 hx9 hx6 hx8 hbel gx9 gx6 gx8 gbel lb13
    go_wp2_with fail
    have f6 := ((((((HB6.out.other (Ne.symm ne69) 1 (.string ⟨t.toArray⟩)).set 0 (.string NM)).set 1 (.string ⟨t.toArray⟩)).set 2 (.int .i64 (k : Int))).other ne86 0 (.int .i64 0)).other ne86 1 (.int .i64 0))
    have f8 := ((((((HB8.out.other (Ne.symm ne89) 1 (.string ⟨t.toArray⟩)).other (Ne.symm ne86) 0 (.string NM)).other (Ne.symm ne86) 1 (.string ⟨t.toArray⟩)).other (Ne.symm ne86) 2 (.int .i64 (k : Int))).set 0 (.int .i64 0)).set 1 (.int .i64 0))
    have fb := (Below.setCell (Below.setCell (Below.setCell (Below.setCell (Below.setCell (Below.setCell HBL.out (p := ⟨w.heap.size + 1 + 1, 1, none⟩) (Nat.le_succ_of_le (Nat.le_succ _)) (.string ⟨t.toArray⟩)) (p := ⟨w.heap.size, 0, none⟩) lo6 (.string NM)) (p := ⟨w.heap.size, 1, none⟩) lo6 (.string ⟨t.toArray⟩)) (p := ⟨w.heap.size, 2, none⟩) lo6 (.int .i64 (k : Int))) (p := ⟨w.heap.size + 1, 0, none⟩) lo8 (.int .i64 0)) (p := ⟨w.heap.size + 1, 1, none⟩) lo8 (.int .i64 0))
    have x0 := f6.c (j := 0) rfl
    have x1 := f6.c (j := 1) rfl
    have x2 := f6.c (j := 2) rfl
    have y0 := f8.c (j := 0) rfl
    have y1 := f8.c (j := 1) rfl
    clear f6 f8
    refine bodyPost_ret (v := .tuple #[.agg #[.string NM, .string ⟨t.toArray⟩, .int .i64 (k : Int)], .int .i64 ((to : Int) + 1), noF]) (by simp only [results, Tryz.results46]; simp [results, go_sem, x0, x1, x2, y0, y1]) rfl ?_
    obtain ⟨N, hN, hN2, hN3⟩ := HX.out
    refine ⟨fb, ?_⟩
    rw [hN]
    show _ = Ending.returned (.tuple #[attV _, .int .i64 ((k + N : Nat) : Int), noF])
    unfold attV
    rw [hN2, hN3, Int.natCast_succ]
theorem wrongO_code {α : Type} {l : List UInt8} {d : Nat} {c : Int} (h : (wrongO l : Out α) = .bad d c) : c ≠ 0 := by
  unfold wrongO at h; split at h <;> cases h; decide
theorem refO_code {l : List UInt8} {d : Nat} {c : Int} (h : refO l = .bad d c) : c ≠ 0 := by
  unfold refO at h; split at h <;> cases h; decide
theorem pieceO_code {l : List UInt8} {d : Nat} {c : Int} (h : pieceO l = .bad d c) : c ≠ 0 := by
  unfold pieceO at h
  split at h
  · exact refO_code h
  · split at h <;> cases h
theorem stepV_code {l : List UInt8} {d : Nat} {c : Int} (h : stepV l = .bad d c) : c ≠ 0 := by
  unfold stepV at h
  split at h
  · exact wrongO_code h
  · split at h
    · cases hp : pieceO l with
      | ok a n => rw [hp] at h; cases h
      | bad d' c' => rw [hp] at h; cases h; exact pieceO_code hp
      | un => rw [hp] at h; cases h
    · exact pieceO_code h
theorem loopF_code {α : Type} {stop : List UInt8 → Bool} {step : Nat → List UInt8 → Out α} {P : Int → Prop} (H : ∀ k l d c, step k l = .bad d c → P c) (m : Nat) :
    ∀ (k : Nat) (l : List UInt8) (d : Nat) (c : Int), loopF stop step m k l = .bad d c → P c := by
  induction m with
  | zero => intro k l d c h; cases h
  | succ m ih =>
    intro k l d c h
    rw [loopF] at h
    split at h
    · cases h
    · cases hq : step k l with
      | ok a n =>
        rw [hq] at h
        simp only at h
        cases hr : loopF stop step m (k + n) (l.drop n) with
        | ok bs j => rw [hr] at h; cases h
        | bad d' c' => rw [hr] at h; cases h; exact ih _ _ _ _ hr
        | un => rw [hr] at h; cases h
      | bad d' c' => rw [hq] at h; cases h; exact H _ _ _ _ hq
      | un => rw [hq] at h; cases h
theorem whole_code {q : Nat} {l : List UInt8} {d : Nat} {c : Int} (h : wholeO true q l = .bad d c) : c ≠ 0 := by
  unfold wholeO at h
  cases hq : loop (stop_ true q) (fun _ => stpc true) 0 l with
  | ok a n => rw [hq] at h; cases h
  | bad d' c' =>
    rw [hq] at h; cases h
    exact loopF_code (P := fun c => c ≠ 0) (fun _ _ _ _ => stepV_code) _ _ _ _ _ hq
  | un => rw [hq] at h; cases h
/-- the document's attr does what attrO says -/
theorem dAttr_any (s : ByteArray) (f k : Nat) (hk : k ≤ s.size) (hs : s.size ≤ 65536) (h0 : ∀ b ∈ s.data.toList, b ≠ 0) (w : World) :
    Calls Tryz.prog 46 #[.string s, .int .i64 (f : Int), .int .i64 (k : Int)] w (AtPost w k f (attrO k (tl s k))) := by
  by_cases h1 : nm (tl s k) = 0
  · exact dAttr_f1 s f k hk hs h1 w
  by_cases h61 : hd (tl s (k + nm (tl s k) + wh (tl s (k + nm (tl s k))))) = 61
  · by_cases hqq : hd (tl s (k + nm (tl s k) + wh (tl s (k + nm (tl s k))) + 1 + wh (tl s (k + nm (tl s k) + wh (tl s (k + nm (tl s k))) + 1)))) = 34 ∨ hd (tl s (k + nm (tl s k) + wh (tl s (k + nm (tl s k))) + 1 + wh (tl s (k + nm (tl s k) + wh (tl s (k + nm (tl s k))) + 1)))) = 39
    · cases hw : wholeO true (hd (tl s (k + nm (tl s k) + wh (tl s (k + nm (tl s k))) + 1 + wh (tl s (k + nm (tl s k) + wh (tl s (k + nm (tl s k))) + 1))))) (tl s (k + nm (tl s k) + wh (tl s (k + nm (tl s k))) + 1 + wh (tl s (k + nm (tl s k) + wh (tl s (k + nm (tl s k))) + 1)) + 1)) with
      | ok t n => exact dAttr_ok s f k _ _ _ hk hs rfl h1 rfl rfl h61 _ rfl _ rfl hqq h0 hw w
      | bad d c => exact dAttr_ft s f k _ _ _ hk hs rfl h1 rfl rfl h61 _ rfl _ rfl hqq h0 hw (whole_code hw) w
      | un => exact dAttr_fu s f k _ _ _ hk hs rfl h1 rfl rfl h61 _ rfl _ rfl hqq h0 hw w
    · exact dAttr_f3 s f k _ _ _ hk hs rfl h1 rfl rfl h61 _ rfl (fun e => hqq (.inl e)) (fun e => hqq (.inr e)) w
  · exact dAttr_f2 s f k _ _ _ hk hs rfl h1 rfl rfl h61 w
end Go.Proofs.YtbokcihlbpeagaaGreatDoor
