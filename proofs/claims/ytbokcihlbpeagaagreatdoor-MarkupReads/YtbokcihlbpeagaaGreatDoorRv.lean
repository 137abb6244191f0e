/-
  What is proved: contracts of the closure that markup's Marks defers, and of Marks. Conditions: those in each statement.
-/
import Derived.Test.YtbokcihlbpeagaaGreatDoorRu
namespace Go.Proofs.YtbokcihlbpeagaaGreatDoor
open Go.RowKit

/-- a result's own cell -/
def RC (w : World) (b : Nat) (v : Value) (t : TypeId) : Prop := w.heap[b]? = some (.cells #[v] t (0, 0))
section
variable {w w' : World} {b : Nat} {v : Value} {t : TypeId}
theorem RC.c (h : RC w b v t) : w.cell? ⟨b, 0, none⟩ = some v := by rw [Lib.cell_of_heap h]; rfl
theorem RC.fz (h : RC w b v t) : w.frozen? ⟨b, 0, none⟩ = false := Lib.frozen_of_heap h 0
theorem RC.set (h : RC w b v t) (x : Value) : RC (w.setCell ⟨b, 0, none⟩ x) b x t := heap_setCell_at h 0 x
theorem RC.other (h : RC w b v t) {r : Nat} (hr : b ≠ r) (j : Nat) (x : Value) : RC (w.setCell ⟨r, j, none⟩ x) b v t := by
  unfold RC at h ⊢; rw [Below.heap_setCell _ _ _ _ hr]; exact h
theorem RC.mv {p : Nat} (h : RC w b v t) (hm : Mv p w w') (hp : b ≠ p) : RC w' b v t := by
  have := heap_lt h
  unfold RC at h ⊢; rw [hm.block b this hp]; exact h
theorem RC.below {B : Nat} (h : RC w b v t) (hm : Below B w w') (hp : b < B) : RC w' b v t := by
  unfold RC at h ⊢; rw [hm.block b hp]; exact h
end
def stV (q x : Nat) (c : Int) : Nat → Value
  | 0 => .pointer (some ⟨q, 0, none⟩)
  | 1 => .int .i64 (x : Int)
  | 2 => .pointer (some ⟨q, 1, none⟩)
  | 3 => .int .i64 c
  | _ => undef
def stW (V A B C : World) (ls : Nat → Bool) : World := if ls 6 = true then C else if ls 5 = true then B else if ls 4 = true then A else V
section
variable {V A B C : World} {ls : Nat → Bool}
theorem stW_6 (h : ls 6 = true) : stW V A B C ls = C := by unfold stW; rw [if_pos h]
theorem stW_5 (h : ls 6 = false) (h5 : ls 5 = true) : stW V A B C ls = B := by unfold stW; rw [if_neg (by simp [h]), if_pos h5]
theorem stW_4 (h : ls 6 = false) (h5 : ls 5 = false) (h4 : ls 4 = true) : stW V A B C ls = A := by unfold stW; rw [if_neg (by simp [h]), if_neg (by simp [h5]), if_pos h4]
theorem stW_0 (h : ls 6 = false) (h5 : ls 5 = false) (h4 : ls 4 = false) : stW V A B C ls = V := by unfold stW; rw [if_neg (by simp [h]), if_neg (by simp [h5]), if_neg (by simp [h4])]
theorem stW_cell {p : Addr} {v : Value} (h0 : V.cell? p = some v) (h1 : A.cell? p = some v) (h2 : B.cell? p = some v) (h3 : C.cell? p = some v) : (stW V A B C ls).cell? p = some v := by
  unfold stW
  split
  · exact h3
  · split
    · exact h2
    · split
      · exact h1
      · exact h0
end
theorem wp_act {P : Program} {c : Code} {Q : Exit → Act → World → Prop} {a a' : Act} {w : World} (h : a' = a) (k : c.wp P Q a' w) : c.wp P Q a w := h ▸ k
set_option maxHeartbeats 2000000 in
set_option maxRecDepth 100000 in
theorem catch_panicking (r : Nat) (x : Nat) (c : Int) (older : List PanicEntry) (m0 : Value) (a0 e0 : Int) (w : World) (h0 : RC w r m0 22) (h1 : RC w (r + 1) (.int .i64 a0) 3) (h2 : RC w (r + 2) (.int .i64 e0) 23) :
    CallsD Tryz.prog 19 #[.pointer (some ⟨r, 0, none⟩), .pointer (some ⟨r + 1, 0, none⟩), .pointer (some ⟨r + 2, 0, none⟩)] (.panicking ({ v := .iface 46 (.agg #[.int .i64 (x : Int), .int .i64 c]), recovered := false } :: older)) w fun e u' w' =>
      e = .returned (.tuple #[]) ∧ u' = .panicking ({ v := .iface 46 (.agg #[.int .i64 (x : Int), .int .i64 c]), recovered := true } :: older) ∧
      RC w' r (.slice none 0 0) 22 ∧ RC w' (r + 1) (.int .i64 (x : Int)) 3 ∧ RC w' (r + 2) (.int .i64 c) 23 ∧ Below r w w' := by
  refine callsD_of_wpS Tryz.func19 rfl fun c₀ cs hu => ?_
  apply wpS_seq
  apply wpS_region
  simp [wpOpsS, go_sem, recoverD, hu, Tryz.ntmps19, Exit.thenS]
  refine wpS_of_wp ?_
  have d0 := h0.c
  have d1 := h1.c
  have d2 := h2.c
  have z0 := h0.fz
  have z1 := h1.fz
  have z2 := h2.fz
  have b0 := heap_lt h0
  have b1 := heap_lt h1
  have b2 := heap_lt h2
  have H0 := Lib.hid h0
  have H1 := Lib.hid h1
  have H2 := Lib.hid h2
  clear h0 h1 h2
  refine wp_act (a' := { tmps := #[.pointer (some ⟨r, 0, none⟩), .pointer (some ⟨r + 1, 0, none⟩), .pointer (some ⟨r + 2, 0, none⟩), .iface 46 (.agg #[.int .i64 (x : Int), .int .i64 c]), undef, .iface 46 (.agg #[.int .i64 (x : Int), .int .i64 c]), undef, undef, undef, undef, undef, undef, undef, undef], defers := [] }) rfl ?_
  clear hu
  have hta : ∀ W, (Instr.typeAssert (.iface 46 (.agg #[.int .i64 (x : Int), .int .i64 c])) 20 46 false).run Tryz.prog W = .ok (.agg #[.int .i64 (x : Int), .int .i64 c]) W := fun W => by
    simp [Instr.typeAssert, run_underlying Tryz.underlying46, go_sem]
  go_wp2
  obtain ⟨V, hV⟩ : ∃ V, V = (w.alloc (.cells #[.int .i64 (x : Int), .int .i64 c] 46)).drew := ⟨_, rfl⟩
  have hb : Below w.heap.size w V := by rw [hV]; exact ((Below.refl _ _).alloc (Nat.le_refl _) _).drew
  have k0 := H0.out.below hb b0
  have k1 := H1.out.below hb b1
  have k2 := H2.out.below hb b2
  have hq : V.heap[w.heap.size]? = some (.cells #[.int .i64 (x : Int), .int .i64 c] 46 (0, 0)) := by rw [hV]; exact heap_at _ _ _ rfl
  have qr : w.heap.size ≠ r := by omega
  have qr1 : w.heap.size ≠ r + 1 := by omega
  have qr2 : w.heap.size ≠ r + 2 := by omega
  have qA : (V.setCell ⟨r, 0, none⟩ (.slice none 0 0)).heap[w.heap.size]? = some (.cells #[.int .i64 (x : Int), .int .i64 c] 46 (0, 0)) := by rw [Below.heap_setCell _ _ _ _ qr]; exact hq
  have qB : ((V.setCell ⟨r, 0, none⟩ (.slice none 0 0)).setCell ⟨r + 1, 0, none⟩ (.int .i64 (x : Int))).heap[w.heap.size]? = some (.cells #[.int .i64 (x : Int), .int .i64 c] 46 (0, 0)) := by rw [Below.heap_setCell _ _ _ _ qr1]; exact qA
  have qC : (((V.setCell ⟨r, 0, none⟩ (.slice none 0 0)).setCell ⟨r + 1, 0, none⟩ (.int .i64 (x : Int))).setCell ⟨r + 2, 0, none⟩ (.int .i64 c)).heap[w.heap.size]? = some (.cells #[.int .i64 (x : Int), .int .i64 c] 46 (0, 0)) := by rw [Below.heap_setCell _ _ _ _ qr2]; exact qB
  have X0 := Lib.hid (fun ls => stW_cell (ls := ls) (p := ⟨w.heap.size, 0, none⟩) (v := .int .i64 (x : Int)) (by rw [Lib.cell_of_heap hq]; rfl) (by rw [Lib.cell_of_heap qA]; rfl) (by rw [Lib.cell_of_heap qB]; rfl) (by rw [Lib.cell_of_heap qC]; rfl))
  have X1 := Lib.hid (fun ls => stW_cell (ls := ls) (p := ⟨w.heap.size, 1, none⟩) (v := .int .i64 c) (by rw [Lib.cell_of_heap hq]; rfl) (by rw [Lib.cell_of_heap qA]; rfl) (by rw [Lib.cell_of_heap qB]; rfl) (by rw [Lib.cell_of_heap qC]; rfl))
  have kA1 := k1.other (r := r) (by omega) 0 (.slice none 0 0)
  have kB2 := (k2.other (r := r) (by omega) 0 (.slice none 0 0)).other (r := r + 1) (by omega) 0 (.int .i64 (x : Int))
  have K0 := Lib.hid k0
  have K1 := Lib.hid kA1
  have K2 := Lib.hid kB2
  have HB := Lib.hid hb
  have HV := Lib.hid hV
  have HF : Hid (RC (((V.setCell ⟨r, 0, none⟩ (.slice none 0 0)).setCell ⟨r + 1, 0, none⟩ (.int .i64 (x : Int))).setCell ⟨r + 2, 0, none⟩ (.int .i64 c)) r (.slice none 0 0) 22 ∧ RC (((V.setCell ⟨r, 0, none⟩ (.slice none 0 0)).setCell ⟨r + 1, 0, none⟩ (.int .i64 (x : Int))).setCell ⟨r + 2, 0, none⟩ (.int .i64 c)) (r + 1) (.int .i64 (x : Int)) 3 ∧ RC (((V.setCell ⟨r, 0, none⟩ (.slice none 0 0)).setCell ⟨r + 1, 0, none⟩ (.int .i64 (x : Int))).setCell ⟨r + 2, 0, none⟩ (.int .i64 c)) (r + 2) (.int .i64 c) 23 ∧ Below r w (((V.setCell ⟨r, 0, none⟩ (.slice none 0 0)).setCell ⟨r + 1, 0, none⟩ (.int .i64 (x : Int))).setCell ⟨r + 2, 0, none⟩ (.int .i64 c))) :=
    Lib.hid ⟨((k0.set _).other (r := r + 1) (by omega) _ _).other (r := r + 2) (by omega) _ _, (kA1.set _).other (r := r + 2) (by omega) _ _, kB2.set _, ((((hb.mono (Nat.le_of_lt b0) : Below r w V)).setCell (p := ⟨r, 0, none⟩) (Nat.le_refl _) _).setCell (p := ⟨r + 1, 0, none⟩) (by simp) _).setCell (p := ⟨r + 2, 0, none⟩) (by simp) _⟩
  clear k0 k1 k2 kA1 kB2 hq qA qB qC hb hV d0 d1 d2 z0 z1 z2 H0 H1 H2 hta
  refine wp_region_chain (stV w.heap.size x c) (stW V (V.setCell ⟨r, 0, none⟩ (.slice none 0 0)) ((V.setCell ⟨r, 0, none⟩ (.slice none 0 0)).setCell ⟨r + 1, 0, none⟩ (.int .i64 (x : Int))) (((V.setCell ⟨r, 0, none⟩ (.slice none 0 0)).setCell ⟨r + 1, 0, none⟩ (.int .i64 (x : Int))).setCell ⟨r + 2, 0, none⟩ (.int .i64 c))) (by kernel_rfl) (by kernel_rfl) (by rw [HV.out]; rfl) ?_ ?_
  · refine ⟨?_, ?_, ?_, ?_, ?_, ?_, ?_, trivial⟩
    · intro a ls hcl hi hd hoff hf
      left
      refine ⟨rfl, ?_⟩
      have e0 : a.tmps.getD 4 undef = .pointer (some ⟨w.heap.size, 0, none⟩) := hoff.slot 4 (no_dst (by kernel_rfl))
      go_simp
      all_goals first | exact ⟨rfl, rfl⟩ | exact rfl
    · intro a ls hcl hi hd hoff hf
      left
      refine ⟨rfl, ?_⟩
      have e0 : a.tmps.getD 10 undef = .pointer (some ⟨w.heap.size, 0, none⟩) := hf 0 _ (hd 0 rfl) rfl
      have hc := X0.out ls
      go_simp
      all_goals first | exact ⟨rfl, rfl⟩ | exact rfl
    · intro a ls hcl hi hd hoff hf
      left
      refine ⟨rfl, ?_⟩
      have e0 : a.tmps.getD 4 undef = .pointer (some ⟨w.heap.size, 0, none⟩) := hoff.slot 4 (no_dst (by kernel_rfl))
      go_simp
      all_goals first | exact ⟨rfl, rfl⟩ | exact rfl
    · intro a ls hcl hi hd hoff hf
      left
      refine ⟨rfl, ?_⟩
      have e0 : a.tmps.getD 12 undef = .pointer (some ⟨w.heap.size, 1, none⟩) := hf 2 _ (hd 2 rfl) rfl
      have hc := X1.out ls
      go_simp
      all_goals first | exact ⟨rfl, rfl⟩ | exact rfl
    · intro a ls hcl hi hd hoff hf
      left
      refine ⟨rfl, ?_⟩
      have e0 : a.tmps.getD 0 undef = .pointer (some ⟨r, 0, none⟩) := hoff.slot 0 (no_dst (by kernel_rfl))
      have h5 : ls 5 = false := hcl.no hi rfl rfl
      have h6 : ls 6 = false := hcl.no h5 rfl rfl
      have hw : stW V (V.setCell ⟨r, 0, none⟩ (.slice none 0 0)) ((V.setCell ⟨r, 0, none⟩ (.slice none 0 0)).setCell ⟨r + 1, 0, none⟩ (.int .i64 (x : Int))) (((V.setCell ⟨r, 0, none⟩ (.slice none 0 0)).setCell ⟨r + 1, 0, none⟩ (.int .i64 (x : Int))).setCell ⟨r + 2, 0, none⟩ (.int .i64 c)) (updB ls 4) = V.setCell ⟨r, 0, none⟩ (.slice none 0 0) := stW_4 h6 h5 rfl
      rw [hw, stW_0 h6 h5 hi]
      have y0 := K0.out.c
      have y1 := K0.out.fz
      go_simp
      all_goals first | exact ⟨rfl, rfl⟩ | exact rfl
    · intro a ls hcl hi hd hoff hf
      left
      refine ⟨rfl, ?_⟩
      have e0 : a.tmps.getD 1 undef = .pointer (some ⟨r + 1, 0, none⟩) := hoff.slot 1 (no_dst (by kernel_rfl))
      have e1 : a.tmps.getD 11 undef = .int .i64 (x : Int) := hf 1 _ (hd 1 rfl) rfl
      have h6 : ls 6 = false := hcl.no hi rfl rfl
      have hw : stW V (V.setCell ⟨r, 0, none⟩ (.slice none 0 0)) ((V.setCell ⟨r, 0, none⟩ (.slice none 0 0)).setCell ⟨r + 1, 0, none⟩ (.int .i64 (x : Int))) (((V.setCell ⟨r, 0, none⟩ (.slice none 0 0)).setCell ⟨r + 1, 0, none⟩ (.int .i64 (x : Int))).setCell ⟨r + 2, 0, none⟩ (.int .i64 c)) (updB ls 5) = (V.setCell ⟨r, 0, none⟩ (.slice none 0 0)).setCell ⟨r + 1, 0, none⟩ (.int .i64 (x : Int)) := stW_5 h6 rfl
      rw [hw, stW_4 h6 hi (hd 4 rfl)]
      have y0 := K1.out.c
      have y1 := K1.out.fz
      generalize V.setCell ⟨r, 0, none⟩ (.slice none 0 0) = Z at *
      go_simp
      all_goals first | exact ⟨rfl, rfl⟩ | exact rfl
    · intro a ls hcl hi hd hoff hf
      left
      refine ⟨rfl, ?_⟩
      have e0 : a.tmps.getD 2 undef = .pointer (some ⟨r + 2, 0, none⟩) := hoff.slot 2 (no_dst (by kernel_rfl))
      have e1 : a.tmps.getD 13 undef = .int .i64 c := hf 3 _ (hd 3 rfl) rfl
      have hw : stW V (V.setCell ⟨r, 0, none⟩ (.slice none 0 0)) ((V.setCell ⟨r, 0, none⟩ (.slice none 0 0)).setCell ⟨r + 1, 0, none⟩ (.int .i64 (x : Int))) (((V.setCell ⟨r, 0, none⟩ (.slice none 0 0)).setCell ⟨r + 1, 0, none⟩ (.int .i64 (x : Int))).setCell ⟨r + 2, 0, none⟩ (.int .i64 c)) (updB ls 6) = ((V.setCell ⟨r, 0, none⟩ (.slice none 0 0)).setCell ⟨r + 1, 0, none⟩ (.int .i64 (x : Int))).setCell ⟨r + 2, 0, none⟩ (.int .i64 c) := stW_6 rfl
      rw [hw, stW_5 hi (hd 5 rfl)]
      have y0 := K2.out.c
      have y1 := K2.out.fz
      generalize (V.setCell ⟨r, 0, none⟩ (.slice none 0 0)).setCell ⟨r + 1, 0, none⟩ (.int .i64 (x : Int)) = Z at *
      go_simp
      all_goals first | exact ⟨rfl, rfl⟩ | exact rfl
  · intro a ls hl hoff hf
    rw [stW_6 (hl 6 (by decide))]
    exact ⟨hoff.defers, _, rfl, _, results_none rfl _ _ _, rfl, rfl, HF.out⟩
set_option maxRecDepth 100000 in
theorem catch_idle (q0 q1 q2 : Option Addr) (w : World) :
    CallsD Tryz.prog 19 #[.pointer q0, .pointer q1, .pointer q2] .returning w fun e u' w' => e = .returned (.tuple #[]) ∧ u' = .returning ∧ w' = w := by
  refine callsD_of_wpS Tryz.func19 rfl fun c₀ cs hu => ?_
  apply wpS_seq
  apply wpS_region
  simp [wpOpsS, go_sem, recoverD, hu, Tryz.ntmps19, Exit.thenS]
  refine wpS_of_wp ?_
  refine wp_act (a' := { tmps := #[.pointer q0, .pointer q1, .pointer q2, .nilIface, undef, .nilIface, undef, undef, undef, undef, undef, undef, undef, undef], defers := [] }) rfl ?_
  go_wp2
  cases c₀
  simp_all [bodyPostS, results, Tryz.results19]

theorem loopF_not_un {α : Type} {stop : List UInt8 → Bool} {step : Nat → List UInt8 → Out α} (h : ∀ k l, step k l ≠ .un) (m : Nat) : ∀ (k : Nat) (l : List UInt8), loopF stop step m k l ≠ .un := by
  induction m with
  | zero => intro k l e; cases e
  | succ m ih =>
    intro k l e
    simp only [loopF] at e
    split at e
    · cases e
    · cases hq : step k l with
      | ok a j =>
        rw [hq] at e
        simp only at e
        cases hr : loopF stop step m (k + j) (l.drop j) with
        | ok zs i => rw [hr] at e; cases e
        | bad d c => rw [hr] at e; cases e
        | un => exact ih _ _ hr
      | bad d c => rw [hq] at e; cases e
      | un => exact h _ _ hq
theorem loop_not_un {α : Type} {stop : List UInt8 → Bool} {step : Nat → List UInt8 → Out α} (h : ∀ k l, step k l ≠ .un) {k : Nat} {l : List UInt8} : loop stop step k l ≠ .un := loopF_not_un h _ _ _
/-- what Marks answers -/
def resO (l : List UInt8) : List Mk ⊕ (Nat × Int) := match chkO l with
  | some x => .inr x
  | none => match marksO l with
    | .ok ms _ => .inl ms
    | .bad d c => .inr (d, c)
    | .un => .inr (0, 84)
def MarksPost (w : World) (r : List Mk ⊕ (Nat × Int)) (e : Ending) (w' : World) : Prop := Below w.heap.size w w' ∧ match r with
  | .inl ms => ∃ mv B zs, zs.map Prod.fst = ms ∧ e = .returned (.tuple #[mv, .int .i64 0, .int .i64 0]) ∧ w.heap.size ≤ B ∧ MR w' B mv zs
  | .inr (x, c) => e = .returned (.tuple #[.slice none 0 0, .int .i64 (x : Int), .int .i64 c])
set_option maxHeartbeats 4000000 in
set_option maxRecDepth 100000 in
theorem marks_check (w : World) (s : ByteArray) {x : Nat} {c : Int} (hc : chkO s.data.toList = some (x, c)) :
    Calls Tryz.prog 6 #[.string s] w (MarksPost w (resO s.data.toList)) := by
  have HC := Lib.hid (fun W => check_any W s)
  rw [hc] at HC
  have HO : Hid (resO s.data.toList = .inr (x, c)) := Lib.hid (by unfold resO; rw [hc])
  clear hc
  have hmf : ∀ (fn : Fn) (first cap : Array Value) (w : World), (Instr.makeFunc fn first cap).run Tryz.prog w = .ok (.func fn first cap) w := fun _ _ _ _ => rfl
  go_enter_defers Tryz.func6, Tryz.ntmps6
  go_wp2_with (go_at_call 20; refine (HC.out _).mono ?_; rintro e w2 ⟨rfl, rfl⟩)
  have r0 : RC (((w.alloc (.cells #[.slice none 0 0] 22)).alloc (.cells #[.int .i64 0] 3)).alloc (.cells #[.int .i64 0] 23)) w.heap.size (.slice none 0 0) 22 := by
    unfold RC; rw [Below.heap_alloc _ _ _ (by simp; try omega), Below.heap_alloc _ _ _ (by simp)]; exact heap_at _ _ _ rfl
  have r1 : RC (((w.alloc (.cells #[.slice none 0 0] 22)).alloc (.cells #[.int .i64 0] 3)).alloc (.cells #[.int .i64 0] 23)) (w.heap.size + 1) (.int .i64 0) 3 := by
    unfold RC; rw [Below.heap_alloc _ _ _ (by simp)]; exact heap_at _ _ _ (by simp)
  have r2 : RC (((w.alloc (.cells #[.slice none 0 0] 22)).alloc (.cells #[.int .i64 0] 3)).alloc (.cells #[.int .i64 0] 23)) (w.heap.size + 2) (.int .i64 0) 23 := heap_at _ _ _ (by simp)
  have rb : Below w.heap.size w (((w.alloc (.cells #[.slice none 0 0] 22)).alloc (.cells #[.int .i64 0] 3)).alloc (.cells #[.int .i64 0] 23)) := (((Below.refl _ _).alloc (Nat.le_refl _) _).alloc (by simp) _).alloc (by simp; omega) _
  refine leaves_cons (f := 19) (args := #[.pointer (some ⟨w.heap.size, 0, none⟩), .pointer (some ⟨w.heap.size + 1, 0, none⟩), .pointer (some ⟨w.heap.size + 2, 0, none⟩)]) (by simp) (by simp [go_sem]) ?_
  refine (catch_panicking w.heap.size x c [] _ _ _ _ r0 r1 r2).mono ?_
  rintro e u' w9 ⟨rfl, rfl, h0, h1, h2, hb⟩
  have y0 := h0.c
  have y1 := h1.c
  have y2 : w9.cell? ⟨w.heap.size + 1 + 1, 0, none⟩ = some (.int .i64 c) := h2.c
  have HB := Lib.hid (rb.trans hb)
  clear h0 h1 h2 hb r0 r1 r2 rb
  rw [HO.out]
  simp [Leaves, settle, results, Tryz.results6, go_sem, y0, y1, y2]
  exact ⟨HB.out, rfl⟩
set_option maxHeartbeats 4000000 in
set_option maxRecDepth 100000 in
theorem marks_bad (w : World) (s : ByteArray) (hG : Glob w) (hc : chkO s.data.toList = none) (hs : s.size ≤ 65536) {d : Nat} {c : Int} (hd : marksO s.data.toList = .bad d c) :
    Calls Tryz.prog 6 #[.string s] w (MarksPost w (resO s.data.toList)) := by
  have HC := Lib.hid (fun W => check_any W s)
  rw [hc] at HC
  have HO : Hid (resO s.data.toList = .inr (d, c)) := Lib.hid (by unfold resO; rw [hc, hd])
  have HD := Lib.hid (fun W p (hW : Rd W p s 0 0 (.slice none 0 0)) (hgW : Glob W) (hp : 9 ≤ p) => document_any W p s hW hgW hp hs)
  rw [show tl s 0 = s.data.toList from rfl, hd] at HD
  have HG := Lib.hid hG
  clear hc hs hd hG
  have hmf : ∀ (fn : Fn) (first cap : Array Value) (w : World), (Instr.makeFunc fn first cap).run Tryz.prog w = .ok (.func fn first cap) w := fun _ _ _ _ => rfl
  have r0 : RC (((w.alloc (.cells #[.slice none 0 0] 22)).alloc (.cells #[.int .i64 0] 3)).alloc (.cells #[.int .i64 0] 23)) w.heap.size (.slice none 0 0) 22 := by
    unfold RC; rw [Below.heap_alloc _ _ _ (by simp; try omega), Below.heap_alloc _ _ _ (by simp)]; exact heap_at _ _ _ rfl
  have r1 : RC (((w.alloc (.cells #[.slice none 0 0] 22)).alloc (.cells #[.int .i64 0] 3)).alloc (.cells #[.int .i64 0] 23)) (w.heap.size + 1) (.int .i64 0) 3 := by
    unfold RC; rw [Below.heap_alloc _ _ _ (by simp)]; exact heap_at _ _ _ (by simp)
  have r2 : RC (((w.alloc (.cells #[.slice none 0 0] 22)).alloc (.cells #[.int .i64 0] 3)).alloc (.cells #[.int .i64 0] 23)) (w.heap.size + 2) (.int .i64 0) 23 := heap_at _ _ _ (by simp)
  have rb : Below w.heap.size w (((w.alloc (.cells #[.slice none 0 0] 22)).alloc (.cells #[.int .i64 0] 3)).alloc (.cells #[.int .i64 0] 23)) := (((Below.refl _ _).alloc (Nat.le_refl _) _).alloc (by simp) _).alloc (by simp; omega) _
  have HRB := Lib.hid rb
  have hRd : Rd ((((w.alloc (.cells #[.slice none 0 0] 22)).alloc (.cells #[.int .i64 0] 3)).alloc (.cells #[.int .i64 0] 23)).alloc (.cells #[.string s, .int .i64 0, .int .i64 0, .slice none 0 0] 49)) (w.heap.size + 3) s 0 0 (.slice none 0 0) := heap_at _ _ _ (by simp)
  have hAl : ∀ o, Below (w.heap.size + 3) (((w.alloc (.cells #[.slice none 0 0] 22)).alloc (.cells #[.int .i64 0] 3)).alloc (.cells #[.int .i64 0] 23)) ((((w.alloc (.cells #[.slice none 0 0] 22)).alloc (.cells #[.int .i64 0] 3)).alloc (.cells #[.int .i64 0] 23)).alloc o) := fun o => (Below.refl _ _).alloc (by simp) _
  have HDW := Lib.hid (HD.out _ _ hRd (HG.out.below (rb.trans ((hAl _).mono (by omega))) HG.out.size) (by have := HG.out.size; omega))
  have S0 := Lib.hid (r0.below (hAl (.cells #[.string s, .int .i64 0, .int .i64 0, .slice none 0 0] 49)) (by omega))
  have S1 := Lib.hid (r1.below (hAl (.cells #[.string s, .int .i64 0, .int .i64 0, .slice none 0 0] 49)) (by omega))
  have S2 := Lib.hid (r2.below (hAl (.cells #[.string s, .int .i64 0, .int .i64 0, .slice none 0 0] 49)) (by omega))
  have SB := Lib.hid (rb.trans ((hAl (.cells #[.string s, .int .i64 0, .int .i64 0, .slice none 0 0] 49)).mono (by omega)))
  clear r0 r1 r2 rb hRd hAl HD HRB
  go_enter_defers Tryz.func6, Tryz.ntmps6
  go_wp2_with (first
    | (go_at_call 20; refine (HC.out _).mono ?_; rintro e w2 ⟨rfl, rfl⟩)
    | (go_at_call 21; refine HDW.out.mono ?_; rintro e w3 ⟨hm, rfl⟩; have HM3 := Lib.hid hm; clear hm))
  refine leaves_cons (f := 19) (args := #[.pointer (some ⟨w.heap.size, 0, none⟩), .pointer (some ⟨w.heap.size + 1, 0, none⟩), .pointer (some ⟨w.heap.size + 2, 0, none⟩)]) (by simp) (by simp [go_sem]) ?_
  refine (catch_panicking w.heap.size d c [] _ _ _ _ (S0.out.mv HM3.out (by omega)) (S1.out.mv HM3.out (by omega)) (S2.out.mv HM3.out (by omega))).mono ?_
  rintro e u' w9 ⟨rfl, rfl, h0, h1, h2, hb⟩
  have y0 := h0.c
  have y1 := h1.c
  have y2 : w9.cell? ⟨w.heap.size + 1 + 1, 0, none⟩ = some (.int .i64 c) := h2.c
  have HB := Lib.hid ((SB.out.trans (HM3.out.toB (B := w.heap.size) (by omega) (by simp; omega))).trans hb)
  clear h0 h1 h2 hb
  rw [HO.out]
  simp [Leaves, settle, results, Tryz.results6, go_sem, y0, y1, y2]
  exact ⟨HB.out, rfl⟩
set_option maxHeartbeats 4000000 in
set_option maxRecDepth 100000 in
theorem marks_ok (w : World) (s : ByteArray) (hG : Glob w) (hc : chkO s.data.toList = none) (hs : s.size ≤ 65536) {ms : List Mk} {n : Nat} (hd : marksO s.data.toList = .ok ms n) :
    Calls Tryz.prog 6 #[.string s] w (MarksPost w (resO s.data.toList)) := by
  have HC := Lib.hid (fun W => check_any W s)
  rw [hc] at HC
  have HO : Hid (resO s.data.toList = .inl ms) := Lib.hid (by unfold resO; rw [hc, hd])
  have HD := Lib.hid (fun W p (hW : Rd W p s 0 0 (.slice none 0 0)) (hgW : Glob W) (hp : 9 ≤ p) => document_any W p s hW hgW hp hs)
  rw [show tl s 0 = s.data.toList from rfl, hd] at HD
  have HG := Lib.hid hG
  clear hc hs hd hG
  have hmf : ∀ (fn : Fn) (first cap : Array Value) (w : World), (Instr.makeFunc fn first cap).run Tryz.prog w = .ok (.func fn first cap) w := fun _ _ _ _ => rfl
  have r0 : RC (((w.alloc (.cells #[.slice none 0 0] 22)).alloc (.cells #[.int .i64 0] 3)).alloc (.cells #[.int .i64 0] 23)) w.heap.size (.slice none 0 0) 22 := by
    unfold RC; rw [Below.heap_alloc _ _ _ (by simp; try omega), Below.heap_alloc _ _ _ (by simp)]; exact heap_at _ _ _ rfl
  have r1 : RC (((w.alloc (.cells #[.slice none 0 0] 22)).alloc (.cells #[.int .i64 0] 3)).alloc (.cells #[.int .i64 0] 23)) (w.heap.size + 1) (.int .i64 0) 3 := by
    unfold RC; rw [Below.heap_alloc _ _ _ (by simp)]; exact heap_at _ _ _ (by simp)
  have r2 : RC (((w.alloc (.cells #[.slice none 0 0] 22)).alloc (.cells #[.int .i64 0] 3)).alloc (.cells #[.int .i64 0] 23)) (w.heap.size + 2) (.int .i64 0) 23 := heap_at _ _ _ (by simp)
  have rb : Below w.heap.size w (((w.alloc (.cells #[.slice none 0 0] 22)).alloc (.cells #[.int .i64 0] 3)).alloc (.cells #[.int .i64 0] 23)) := (((Below.refl _ _).alloc (Nat.le_refl _) _).alloc (by simp) _).alloc (by simp; omega) _
  have hRd : Rd ((((w.alloc (.cells #[.slice none 0 0] 22)).alloc (.cells #[.int .i64 0] 3)).alloc (.cells #[.int .i64 0] 23)).alloc (.cells #[.string s, .int .i64 0, .int .i64 0, .slice none 0 0] 49)) (w.heap.size + 3) s 0 0 (.slice none 0 0) := heap_at _ _ _ (by simp)
  have hAl : ∀ o, Below (w.heap.size + 3) (((w.alloc (.cells #[.slice none 0 0] 22)).alloc (.cells #[.int .i64 0] 3)).alloc (.cells #[.int .i64 0] 23)) ((((w.alloc (.cells #[.slice none 0 0] 22)).alloc (.cells #[.int .i64 0] 3)).alloc (.cells #[.int .i64 0] 23)).alloc o) := fun o => (Below.refl _ _).alloc (by simp) _
  have HDW := Lib.hid (HD.out _ _ hRd (HG.out.below (rb.trans ((hAl _).mono (by omega))) HG.out.size) (by have := HG.out.size; omega))
  have S0 := Lib.hid (r0.below (hAl (.cells #[.string s, .int .i64 0, .int .i64 0, .slice none 0 0] 49)) (by omega))
  have S1 := Lib.hid (r1.below (hAl (.cells #[.string s, .int .i64 0, .int .i64 0, .slice none 0 0] 49)) (by omega))
  have S2 := Lib.hid (r2.below (hAl (.cells #[.string s, .int .i64 0, .int .i64 0, .slice none 0 0] 49)) (by omega))
  have SB := Lib.hid (rb.trans ((hAl (.cells #[.string s, .int .i64 0, .int .i64 0, .slice none 0 0] 49)).mono (by omega)))
  clear r0 r1 r2 rb hRd hAl HD
  go_enter_defers Tryz.func6, Tryz.ntmps6
  go_wp2_with (first
    | (go_at_call 20; refine (HC.out _).mono ?_; rintro e w2 ⟨rfl, rfl⟩)
    | (go_at_call 21; refine HDW.out.mono ?_; rintro e w3 ⟨hm, rfl, B, f', hB, mv, zs, hz, hr, hmr⟩; have HM3 := Lib.hid hm; have HR3 := Lib.hid hr; have HMR3 := Lib.hid hmr; have HZ := Lib.hid hz; have HBB := Lib.hid hB; have k0 := S0.out.mv hm (by omega); have k1 := S1.out.mv hm (by omega); have k2 := S2.out.mv hm (by omega); have K0 := Lib.hid k0; have K1 := Lib.hid k1; have K2 := Lib.hid k2; obtain ⟨A9, c9, rfl⟩ := own_slice hmr.row; have d0 := k0.c; have d1 := k1.c; have d2 : w3.cell? ⟨w.heap.size + 1 + 1, 0, none⟩ = some (.int .i64 0) := k2.c; have f0 := k0.fz; have f1 := k1.fz; have f2 : w3.frozen? ⟨w.heap.size + 1 + 1, 0, none⟩ = false := k2.fz; have c3 : w3.cell? ⟨w.heap.size + 1 + 1 + 1, 3, none⟩ = some (.slice A9 zs.length c9) := hr.c3; clear hm hr hmr hz hB k0 k1 k2))
  refine leaves_cons (f := 19) (args := #[.pointer (some ⟨w.heap.size, 0, none⟩), .pointer (some ⟨w.heap.size + 1, 0, none⟩), .pointer (some ⟨w.heap.size + 2, 0, none⟩)]) (by simp) (by simp [go_sem]) ?_
  refine (catch_idle _ _ _ _).mono ?_
  rintro e u' w9 ⟨rfl, rfl, rfl⟩
  have hBB : w.heap.size + 4 ≤ B := by have := HBB.out; simp at this; omega
  have y0 := ((K0.out.set (.slice A9 zs.length c9)).other (r := w.heap.size + 1) (by omega) 0 (.int .i64 0)).other (r := w.heap.size + 1 + 1) (by omega) 0 (.int .i64 0)
  have y1 := ((K1.out.other (r := w.heap.size) (by omega) 0 (.slice A9 zs.length c9)).set (.int .i64 0)).other (r := w.heap.size + 1 + 1) (by omega) 0 (.int .i64 0)
  have y2 := ((K2.out.other (r := w.heap.size) (by omega) 0 (.slice A9 zs.length c9)).other (r := w.heap.size + 1) (by omega) 0 (.int .i64 0)).set (.int .i64 0)
  have hm9 := HMR3.out.keep (w' := ((w3.setCell ⟨w.heap.size, 0, none⟩ (.slice A9 zs.length c9)).setCell ⟨w.heap.size + 1, 0, none⟩ (.int .i64 0)).setCell ⟨w.heap.size + 1 + 1, 0, none⟩ (.int .i64 0)) fun b cur t _ hb _ => by
    rw [Below.heap_setCell _ _ _ _ (by simp; omega), Below.heap_setCell _ _ _ _ (by simp; omega), Below.heap_setCell _ _ _ _ (by simp; omega)]
  have hb3 : Below w.heap.size w w3 := SB.out.trans (HM3.out.toB (B := w.heap.size) (by omega) (by simp; omega))
  have hb9 := ((hb3.setCell (p := ⟨w.heap.size, 0, none⟩) (Nat.le_refl _) (.slice A9 zs.length c9)).setCell (p := ⟨w.heap.size + 1, 0, none⟩) (by simp) (.int .i64 0)).setCell (p := ⟨w.heap.size + 1 + 1, 0, none⟩) (by simp; omega) (.int .i64 0)
  have x0 := y0.c
  have x1 := y1.c
  have x2 : (((w3.setCell ⟨w.heap.size, 0, none⟩ (.slice A9 zs.length c9)).setCell ⟨w.heap.size + 1, 0, none⟩ (.int .i64 0)).setCell ⟨w.heap.size + 1 + 1, 0, none⟩ (.int .i64 0)).cell? ⟨w.heap.size + 1 + 1, 0, none⟩ = some (.int .i64 0) := RC.c y2
  have HB := Lib.hid hb9
  have HM := Lib.hid hm9
  clear y0 y1 y2 hm9 hb3 hb9 d0 d1 d2 f0 f1 f2 c3
  rw [HO.out]
  generalize ((w3.setCell ⟨w.heap.size, 0, none⟩ (.slice A9 zs.length c9)).setCell ⟨w.heap.size + 1, 0, none⟩ (.int .i64 0)).setCell ⟨w.heap.size + 1 + 1, 0, none⟩ (.int .i64 0) = Z at *
  simp [Leaves, settle, results, Tryz.results6, go_sem, x0, x1, x2]
  exact ⟨HB.out, _, B, zs, HZ.out, rfl, by omega, HM.out⟩
theorem marksO_not (l : List UInt8) : marksO l ≠ .un := by
  intro h
  unfold marksO at h
  cases hd : (declO l).fin with
  | ok a n =>
    rw [hd] at h
    cases hq : docO n (l.drop n) with
    | ok zs m => rw [show ((Out.ok a n).seq l fun _ n l1 => (docO n l1).map (List.filterMap id)) = ((docO n (l.drop n)).map (List.filterMap id)).on n from rfl, hq] at h; cases h
    | bad d c => rw [show ((Out.ok a n).seq l fun _ n l1 => (docO n l1).map (List.filterMap id)) = ((docO n (l.drop n)).map (List.filterMap id)).on n from rfl, hq] at h; cases h
    | un => exact loop_not_un (fun k l => Out.fin_not _) hq
  | bad d c => rw [hd] at h; cases h
  | un => exact Out.fin_not _ hd
/-- MARKS -/
theorem marks_any (w : World) (s : ByteArray) (hG : Glob w) :
    Calls Tryz.prog 6 #[.string s] w (MarksPost w (resO s.data.toList)) := by
  cases hc : chkO s.data.toList with
  | some x => exact marks_check w s hc
  | none =>
    have hs : s.size ≤ 65536 := by
      unfold chkO at hc
      by_cases h : 65536 < s.data.toList.length
      · rw [if_pos h] at hc; cases hc
      · rw [size_toList] at h; omega
    cases hd : marksO s.data.toList with
    | ok ms n => exact marks_ok w s hG hc hs hd
    | bad d c => exact marks_bad w s hG hc hs hd
    | un => exact absurd hd (marksO_not _)
end Go.Proofs.YtbokcihlbpeagaaGreatDoor
