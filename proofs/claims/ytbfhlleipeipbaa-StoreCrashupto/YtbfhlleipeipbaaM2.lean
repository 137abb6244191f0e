/-
  What is proved: the texts Cc, Ct, Cu in one: what each proves stands ahead of it. Conditions: those in each statement.
-/
import Derived.Test.YtbfhlleipeipbaaM1
import Derived.Test.YtbfhlleipeipbaaJl
import Derived.StillTailTactics
/- What is proved: the contracts of cell's Turn, Get and place. Conditions: those in each statement. -/
namespace Go.Proofs.Ytbfhlleipeipbaa
open Go.RowKit

/-- a cell in memory -/
def Cl (w : World) (cb g : Nat) (f : Int) (h : H4) : Prop := w.heap[cb]? = some (.cells #[.pointer (some ⟨g, 0, none⟩), .int .i64 f, .int .i64 h.t, .int .i64 h.a, .int .i64 h.e, .int .i64 h.c] 101 (0, 0))
theorem Cl.cells {w : World} {cb g : Nat} {f : Int} {h : H4} (k : Cl w cb g f h) : w.cell? ⟨cb, 0, none⟩ = some (.pointer (some ⟨g, 0, none⟩)) ∧ w.cell? ⟨cb, 1, none⟩ = some (.int .i64 f) ∧ w.cell? ⟨cb, 2, none⟩ = some (.int .i64 h.t) ∧ w.cell? ⟨cb, 3, none⟩ = some (.int .i64 h.a) ∧ w.cell? ⟨cb, 4, none⟩ = some (.int .i64 h.e) ∧ w.cell? ⟨cb, 5, none⟩ = some (.int .i64 h.c) ∧ ∀ j, w.frozen? ⟨cb, j, none⟩ = false := by
  unfold Cl at k
  refine ⟨?_, ?_, ?_, ?_, ?_, ?_, fun j => by simp [World.frozen?, k]⟩
  · rw [cell_of_row w cb 0 _ _ _ k]; rfl
  · rw [cell_of_row w cb 1 _ _ _ k]; rfl
  · rw [cell_of_row w cb 2 _ _ _ k]; rfl
  · rw [cell_of_row w cb 3 _ _ _ k]; rfl
  · rw [cell_of_row w cb 4 _ _ _ k]; rfl
  · rw [cell_of_row w cb 5 _ _ _ k]; rfl
theorem Cl.below {w w' : World} {cb g : Nat} {f : Int} {h : H4} (k : Cl w cb g f h) (hb : Below w.heap.size w w') : Cl w' cb g f h := (hb.block cb (Array.getElem?_eq_some_iff.1 k).1).trans k

set_option maxHeartbeats 400000 in
theorem turn_any (w : World) (cb g : Nat) (f : Int) (h : H4) (k : Cl w cb g f h) : Calls Try.prog 45 #[.pointer (some ⟨cb, 0, none⟩)] w fun e w' => e = .returned (.int .i64 h.t) ∧ w = w' := by
  obtain ⟨_, _, c2, _⟩ := k.cells
  clear k
  go_enter Try.func45, Try.ntmps45
  go_wp2
  go_ret
  exact ⟨rfl, rfl⟩

set_option maxHeartbeats 400000 in
theorem place_odd (w : World) (cb g : Nat) (f : Int) (h : H4) (k : Cl w cb g f h) (t : Int) (ht : 0 ≤ t) (ho : t % 2 = 1) : Calls Try.prog 80 #[.pointer (some ⟨cb, 0, none⟩), .int .i64 t] w fun e w' => e = .returned (.int .i64 f) ∧ w = w' := by
  obtain ⟨_, c1, _⟩ := k.cells
  clear k
  have h1 : (t % 2 == 1) = true := by rw [ho]; rfl
  clear ho
  go_enter Try.func80, Try.ntmps80
  go_wp2
  go_ret
  exact ⟨rfl, rfl⟩
set_option maxHeartbeats 400000 in
theorem place_even (w : World) (cb g : Nat) (f : Int) (h : H4) (k : Cl w cb g f h) (t : Int) (ht : 0 ≤ t) (ho : t % 2 ≠ 1) (hf0 : 0 ≤ f) (hf1 : f ≤ 65536) : Calls Try.prog 80 #[.pointer (some ⟨cb, 0, none⟩), .int .i64 t] w fun e w' => e = .returned (.int .i64 (f + 1)) ∧ w = w' := by
  obtain ⟨_, c1, _⟩ := k.cells
  clear k
  have h1 : (t % 2 == 1) = false := by simpa using ho
  clear ho
  go_enter Try.func80, Try.ntmps80
  go_wp2
  go_ret
  exact ⟨rfl, rfl⟩
def placeOf (t : Int) : Int := if t % 2 = 1 then 0 else 1
theorem place_any (w : World) (cb g : Nat) (h : H4) (k : Cl w cb g 0 h) (t : Int) (ht : 0 ≤ t) : Calls Try.prog 80 #[.pointer (some ⟨cb, 0, none⟩), .int .i64 t] w fun e w' => e = .returned (.int .i64 (placeOf t)) ∧ w = w' := by
  unfold placeOf
  by_cases ho : t % 2 = 1
  · rw [if_pos ho]; exact place_odd w cb g 0 h k t ht ho
  · rw [if_neg ho]; exact place_even w cb g 0 h k t ht ho (by omega) (by omega)

set_option maxRecDepth 100000 in
set_option maxHeartbeats 1000000 in
theorem cget_any (w : World) (cb g : Nat) (f : Int) (h : H4) (k : Cl w cb g f h) : Calls Try.prog 27 #[.pointer (some ⟨cb, 0, none⟩)] w fun e w' => e = .returned (.agg #[.int .i64 h.a, .int .i64 h.e, .int .i64 h.c]) ∧ Below w.heap.size w w' := by
  have hb0 : Below w.heap.size w (w.alloc (.cells #[.int .i64 0, .int .i64 0, .int .i64 0] 65)).drew := ((Below.refl _ _).alloc (Nat.le_refl _) _).drew
  have hres : (w.alloc (.cells #[.int .i64 0, .int .i64 0, .int .i64 0] 65)).drew.heap[w.heap.size]? = some (.cells #[.int .i64 0, .int .i64 0, .int .i64 0] 65 (0, 0)) := heap_alloc_new w _
  obtain ⟨V, hV⟩ : ∃ V, V = (w.alloc (.cells #[.int .i64 0, .int .i64 0, .int .i64 0] 65)).drew := ⟨_, rfl⟩
  have kV := k.below hb0
  rw [← hV] at hb0 hres kV
  obtain ⟨_, _, c2, c3, c4, c5, _⟩ := kV.cells
  have HV := Lib.hid hV
  have HB0 := Lib.hid hb0
  have HR := Lib.hid hres
  clear k hb0 hres hV kV
  go_enter Try.func27, Try.ntmps27
  go_wp2_with fail
  refine wp_region_tail 16 V HV.out (by kernel_rfl) (by kernel_rfl) ?_
  simp only [List.take_succ_cons, List.take_zero, List.drop_succ_cons, List.drop_zero]
  clear HV
  iterate 16 still_step
  refine wpStill_nil ?_
  have r0 := (box3 HR.out).1
  have r1 := (box3 HR.out).2.1
  have r2 := (box3 HR.out).2.2
  have ff : ∀ j, V.frozen? ⟨w.heap.size, j, none⟩ = false := fun j => by simp [World.frozen?, HR.out]
  have rr0 := ff 0
  have rr1 := ff 1
  have rr2 := ff 2
  have hq := heap_setCell_at (heap_setCell_at (heap_setCell_at HR.out 0 (.int .i64 h.a)) 1 (.int .i64 h.e)) 2 (.int .i64 h.c)
  obtain ⟨q0, q1, q2⟩ := box3 hq
  have HQ0 := Lib.hid q0
  have HQ1 := Lib.hid q1
  have HQ2 := Lib.hid q2
  have HBQ := Lib.hid (((HB0.out.setCell (p := ⟨w.heap.size, 0, none⟩) (Nat.le_refl _) (.int .i64 h.a)).setCell (p := ⟨w.heap.size, 1, none⟩) (Nat.le_refl _) (.int .i64 h.e)).setCell (p := ⟨w.heap.size, 2, none⟩) (Nat.le_refl _) (.int .i64 h.c))
  clear ff hq q0 q1 q2
  go_wp2_with fail
  exact bodyPost_ret (v := .agg #[.int .i64 h.a, .int .i64 h.e, .int .i64 h.c]) (by simp [results, Try.results27, go_sem, HQ0.out, HQ1.out, HQ2.out]) rfl ⟨rfl, HBQ.out⟩
end Go.Proofs.Ytbfhlleipeipbaa

/- What is proved: the contract of cell's Set: what is answered, what the disk and the cell then have. Conditions: those in each statement. -/
namespace Go.Proofs.Ytbfhlleipeipbaa
open Go.RowKit

/-- what is of other types than a disk's blocks is as it was -/
def OthersD (w w' : World) : Prop := w.heap.size ≤ w'.heap.size ∧ ∀ (b : Nat) (C : Array Value) (t : TypeId) (fr : Nat × Nat), w.heap[b]? = some (.cells C t fr) → t ≠ 61 → t ≠ 88 → t ≠ 90 → w'.heap[b]? = some (.cells C t fr)
theorem OthersD.refl (w : World) : OthersD w w := ⟨Nat.le_refl _, fun _ _ _ _ h _ _ _ => h⟩
theorem OthersD.trans {a b c : World} (h : OthersD a b) (k : OthersD b c) : OthersD a c := ⟨Nat.le_trans h.1 k.1, fun x C t fr hx h1 h2 h3 => k.2 x C t fr (h.2 x C t fr hx h1 h2 h3) h1 h2 h3⟩
theorem OthersD.below {w w' : World} (hb : Below w.heap.size w w') : OthersD w w' := ⟨hb.size, fun b C t fr h _ _ _ => by rw [hb.block b (Array.getElem?_eq_some_iff.1 h).1]; exact h⟩
theorem OthersD.o {w w' : World} (h : OthersD w w') : Others w w' := ⟨h.1, fun b C t fr hb h1 h2 h3 _ => h.2 b C t fr hb h1 h2 h3⟩
theorem Mine.afterD {w0 w w' : World} {g L : Nat} {q : Option Nat} {s s' : D} (hd : Dk w g L q s) (hb0 : Below w0.heap.size w0 w) (hf : ∀ b, Foot g L q b → w0.heap.size ≤ b) (h : After w w' g L q s') : Mine w0 w' g s' ∧ OthersD w w' := by
  refine ⟨(Mine.after hd hb0 hf h).1, ?_⟩
  obtain ⟨q', _, hc, _⟩ := h
  exact ⟨hc.size, fun b C t fr hb h1 h2 h3 => (hc.block b (Array.getElem?_eq_some_iff.1 hb).1 (hd.other hb h1 h2 h3)).trans hb⟩
section
variable {w0 w w' : World} {g : Nat} {s : D}
theorem write_mineD (h : Mine w0 w g s) (i : Int) (A : Option Addr) (n c : Nat) (l : List UInt8) (hl : Hold w A n c l) (hn : n ≤ 281474976710656) (hb : (s.buf.length + 1) * 72 ≤ 140737488355328) :
    Calls Try.prog 50 #[.pointer (some ⟨g, 0, none⟩), .int .i64 i, .slice A n c] w fun e w' => e = .returned (.int .i64 (s.wErr i n)) ∧ Mine w0 w' g (s.wSt i l) ∧ OthersD w w' := by
  obtain ⟨L, q, hd, hb0, hf⟩ := h
  refine (write_any w g L q s hd i A n c l hl hn hb).mono ?_
  rintro e w' ⟨rfl, ha⟩
  exact ⟨rfl, Mine.afterD hd hb0 hf ha⟩
theorem flush_mineD (h : Mine w0 w g s) (hn : s.buf.length ≤ 4611686018427387904) :
    Calls Try.prog 51 #[.pointer (some ⟨g, 0, none⟩)] w fun e w' => e = .returned (.int .i64 s.fErr) ∧ Mine w0 w' g s.fSt ∧ OthersD w w' := by
  obtain ⟨L, q, hd, hb0, hf⟩ := h
  refine (flush_any w g L q s hd hn).mono ?_
  rintro e w' ⟨rfl, ha⟩
  exact ⟨rfl, Mine.afterD hd hb0 hf ha⟩
end
theorem own_others {W W' : World} {B n : Nat} {v : Value} {xs : List Value} (h : W.ownsRow B 5 1 v n xs) (ho : OthersD W W') : W'.ownsRow B 5 1 v n xs := by
  refine ⟨h.1, ?_⟩
  rcases h.2 with h0 | ⟨q, cap, cur, hv, hb, hg, r⟩
  · exact .inl h0
  · exact .inr ⟨q, cap, cur, hv, hb, ho.2 q cur 5 (0, 0) hg (by decide) (by decide) (by decide), r⟩
/-- what is of other types than a disk's, a journal's and a cell's blocks is as it was -/
def OthersC (w w' : World) : Prop := w.heap.size ≤ w'.heap.size ∧ ∀ (b : Nat) (C : Array Value) (t : TypeId) (fr : Nat × Nat), w.heap[b]? = some (.cells C t fr) → t ≠ 61 → t ≠ 88 → t ≠ 90 → t ≠ 101 → w'.heap[b]? = some (.cells C t fr)
theorem OthersD.c {w w' : World} (h : OthersD w w') : OthersC w w' := ⟨h.1, fun b C t fr hb h1 h2 h3 _ => h.2 b C t fr hb h1 h2 h3⟩
theorem OthersC.trans {a b c : World} (h : OthersC a b) (k : OthersC b c) : OthersC a c := ⟨Nat.le_trans h.1 k.1, fun x C t fr hx h1 h2 h3 h4 => k.2 x C t fr (h.2 x C t fr hx h1 h2 h3 h4) h1 h2 h3 h4⟩
theorem Cl.othersD {w w' : World} {cb g : Nat} {f : Int} {h : H4} (k : Cl w cb g f h) (ho : OthersD w w') : Cl w' cb g f h := ho.2 cb _ 101 (0, 0) k (by decide) (by decide) (by decide)
theorem Cl.others {w w' : World} {cb g : Nat} {f : Int} {h : H4} (k : Cl w cb g f h) (ho : Others w w') : Cl w' cb g f h := ho.2 cb _ 101 (0, 0) k (by decide) (by decide) (by decide) (by decide)

/-! ### Set, as plain functions -/
def nextH (h : H4) (a e c : Int) : H4 := ⟨h.t + 1, a, e, c⟩
def setErr (s : D) (h : H4) (a e c : Int) : Int :=
  if 4611686018427387904 ≤ h.t then 51 else if s.wErr (placeOf (h.t + 1)) 64 ≠ 0 then s.wErr (placeOf (h.t + 1)) 64 else (s.wSt (placeOf (h.t + 1)) (secB (nextH h a e c))).fErr
def setSt (s : D) (h : H4) (a e c : Int) : D :=
  if 4611686018427387904 ≤ h.t then s else if s.wErr (placeOf (h.t + 1)) 64 ≠ 0 then s.wSt (placeOf (h.t + 1)) (secB (nextH h a e c)) else (s.wSt (placeOf (h.t + 1)) (secB (nextH h a e c))).fSt
def setH (s : D) (h : H4) (a e c : Int) : H4 := if setErr s h a e c = 0 then nextH h a e c else h
def SetPost (w0 w : World) (cb g : Nat) (s : D) (h : H4) (a e c : Int) (en : Ending) (w' : World) : Prop :=
  en = .returned (.int .i64 (setErr s h a e c)) ∧ Mine w0 w' g (setSt s h a e c) ∧ Cl w' cb g 0 (setH s h a e c) ∧ OthersC w w'
/-- the values of the first line -/
def s3V (cb bx k : Nat) (t a e c : Int) : Nat → Value
  | 0 => .pointer (some ⟨cb, 0, none⟩)
  | 1 => .int .i64 t
  | 2 => .int .i64 (t + 1)
  | 3 => .pointer (some ⟨bx, 0, none⟩)
  | 4 => .int .i64 a
  | 5 => .pointer (some ⟨bx, 1, none⟩)
  | 6 => .int .i64 e
  | 7 => .pointer (some ⟨bx, 2, none⟩)
  | 8 => .int .i64 c
  | 9 => .agg #[.int .i64 (t + 1), .int .i64 a, .int .i64 e, .int .i64 c]
  | 10 => .pointer (some ⟨k, 0, none⟩)
  | _ => .tuple #[]
def s3A (V : World) : World := V.alloc (.cells #[.int .i64 0, .int .i64 0, .int .i64 0, .int .i64 0] 99)
def s3B (V : World) (k : Nat) (t a e c : Int) : World := ((((s3A V).setCell ⟨k, 0, none⟩ (.int .i64 (t + 1))).setCell ⟨k, 1, none⟩ (.int .i64 a)).setCell ⟨k, 2, none⟩ (.int .i64 e)).setCell ⟨k, 3, none⟩ (.int .i64 c)
def s3W (V : World) (k : Nat) (t a e c : Int) (ls : Nat → Bool) : World := if ls 11 = true then s3B V k t a e c else if ls 10 = true then s3A V else V
theorem s3W_0 {V : World} {k : Nat} {t a e c : Int} {ls : Nat → Bool} (h11 : ls 11 = false) (h10 : ls 10 = false) : s3W V k t a e c ls = V := by simp [s3W, h11, h10]
theorem s3W_10 {V : World} {k : Nat} {t a e c : Int} {ls : Nat → Bool} (h11 : ls 11 = false) (h10 : ls 10 = true) : s3W V k t a e c ls = s3A V := by simp [s3W, h11, h10]
theorem s3W_11 {V : World} {k : Nat} {t a e c : Int} {ls : Nat → Bool} (h11 : ls 11 = true) : s3W V k t a e c ls = s3B V k t a e c := by simp [s3W, h11]
theorem s3W_keep {V : World} {k : Nat} {t a e c : Int} {ls : Nat → Bool} {i : Nat} (h1 : i ≠ 11) (h2 : i ≠ 10) : s3W V k t a e c (updB ls i) = s3W V k t a e c ls := by
  unfold s3W; rw [updB_other ls (Ne.symm h1), updB_other ls (Ne.symm h2)]
theorem s3B_facts {V : World} {k : Nat} (hk : k = V.heap.size) (t a e c : Int) : (s3B V k t a e c).heap[k]? = some (.cells #[.int .i64 (t + 1), .int .i64 a, .int .i64 e, .int .i64 c] 99 (0, 0)) ∧ Below V.heap.size V (s3B V k t a e c) := by
  subst hk
  exact ⟨set4 rfl (heap_alloc_new V _) _ _ _ _, below_set4 ((Below.refl _ _).alloc (Nat.le_refl _) _) (Nat.le_refl _) _ _ _ _⟩

/-! ### what the second line's operations yield -/
def s4F (B cb g bx : Nat) (t a e c : Int) (pl er : Int) : Nat → Value → World → Prop
  | 0, v, _ => v = .pointer (some ⟨cb, 0, none⟩)
  | 1, v, _ => v = .pointer (some ⟨cb, 0, none⟩)
  | 2, v, _ => v = .pointer (some ⟨cb, 0, none⟩)
  | 3, v, _ => v = .pointer (some ⟨g, 0, none⟩)
  | 4, v, _ => v = .pointer (some ⟨cb, 0, none⟩)
  | 5, v, _ => v = .pointer (some ⟨bx, 0, none⟩)
  | 6, v, _ => v = .int .i64 t
  | 7, v, _ => v = .int .i64 pl
  | 8, v, _ => v = .agg #[.int .i64 t, .int .i64 a, .int .i64 e, .int .i64 c]
  | 9, v, w => ∃ A k, v = .slice A 64 k ∧ w.ownsRow B 5 1 v 64 (bv (secB ⟨t, a, e, c⟩))
  | 10, v, _ => v = .int .i64 er
  | 11, v, _ => v = .int .i64 er
  | _, _, _ => True
theorem s4F_mono (B cb g bx : Nat) (t a e c : Int) (pl er : Int) (i : Nat) (v : Value) (w w' : World) (h : s4F B cb g bx t a e c pl er i v w) (ho : OthersD w w') : s4F B cb g bx t a e c pl er i v w' := by
  match i with
  | 0 | 1 | 2 | 3 | 4 | 5 | 6 | 7 | 8 | 10 | 11 => exact h
  | 9 => obtain ⟨A, k, e, hw⟩ := h; exact ⟨A, k, e, own_others hw ho⟩
  | _ + 12 => trivial
structure S4J (w0 X : World) (cb g bx : Nat) (h : H4) (t a e c : Int) (s s2 : D) (ls : Nat → Bool) (W : World) : Prop where
  m : Mine w0 W g (if ls 10 then s2 else s)
  cl : Cl W cb g 0 h
  bx : W.heap[bx]? = some (.cells #[.int .i64 t, .int .i64 a, .int .i64 e, .int .i64 c] 99 (0, 0))
  oth : OthersD X W
theorem S4J.keep {w0 X : World} {cb g bx : Nat} {h : H4} {t a e c : Int} {s s2 : D} {ls : Nat → Bool} {W : World} {i : Nat} (j : S4J w0 X cb g bx h t a e c s s2 ls W) (hi : i ≠ 10) : S4J w0 X cb g bx h t a e c s s2 (updB ls i) W :=
  ⟨by rw [updB_other ls (Ne.symm hi)]; exact j.m, j.cl, j.bx, j.oth⟩
theorem secB_row {w w' : World} {h : H4} {e : Ending} (k : NewRow w (secB h) e w') : ∃ A c, e = .returned (.slice A 64 c) ∧ w'.ownsRow w.heap.size 5 1 (.slice A 64 c) 64 (bv (secB h)) ∧ Below w.heap.size w w' := by
  obtain ⟨A, n, c, he, ho, hb⟩ := k
  have := (Hold.of_own ho).1
  rw [secB_length] at this
  subst this
  exact ⟨A, c, he, ho, hb⟩
theorem Cl.set {w : World} {cb g : Nat} {f : Int} {h : H4} (k : Cl w cb g f h) (n : H4) : Cl ((((w.setCell ⟨cb, 2, none⟩ (.int .i64 n.t)).setCell ⟨cb, 3, none⟩ (.int .i64 n.a)).setCell ⟨cb, 4, none⟩ (.int .i64 n.e)).setCell ⟨cb, 5, none⟩ (.int .i64 n.c)) cb g f n := by
  unfold Cl at *
  rw [heap_setCell_at (heap_setCell_at (heap_setCell_at (heap_setCell_at k 2 _) 3 _) 4 _) 5 _]
  rfl
theorem Cl.setC {w : World} {cb g : Nat} {f : Int} {h : H4} (_k : Cl w cb g f h) (n : H4) : Chg (· = cb) w ((((w.setCell ⟨cb, 2, none⟩ (.int .i64 n.t)).setCell ⟨cb, 3, none⟩ (.int .i64 n.a)).setCell ⟨cb, 4, none⟩ (.int .i64 n.e)).setCell ⟨cb, 5, none⟩ (.int .i64 n.c)) :=
  ((((Chg.refl (fun x => x = cb) w).setCell (p := ⟨cb, 2, none⟩) (.inl rfl) _).setCell (p := ⟨cb, 3, none⟩) (.inl rfl) _).setCell (p := ⟨cb, 4, none⟩) (.inl rfl) _).setCell (p := ⟨cb, 5, none⟩) (.inl rfl) _
theorem OthersC.chg {w w' : World} {cb : Nat} {C0 : Array Value} {fr0 : Nat × Nat} (hc : w.heap[cb]? = some (.cells C0 101 fr0)) (h : Chg (· = cb) w w') : OthersC w w' :=
  ⟨h.size, fun b C t fr hb _ _ _ h5 => (h.block b (Array.getElem?_eq_some_iff.1 hb).1 (fun e => by subst e; rw [hb] at hc; injection hc with hc; injection hc with _ hc; exact h5 hc)).trans hb⟩

set_option maxRecDepth 100000 in
set_option maxHeartbeats 2000000 in
theorem cset_any (w0 w : World) (cb g : Nat) (s : D) (h : H4) (a e c : Int) (hm : Mine w0 w g s) (hcl : Cl w cb g 0 h) (hcb : w0.heap.size ≤ cb) (ht0 : 0 ≤ h.t) (hbuf : s.buf.length ≤ 1099511627776) :
    Calls Try.prog 53 #[.pointer (some ⟨cb, 0, none⟩), .agg #[.int .i64 a, .int .i64 e, .int .i64 c]] w (SetPost w0 w cb g s h a e c) := by
  have hb0 : Below w.heap.size w (w.alloc (.cells #[.int .i64 a, .int .i64 e, .int .i64 c] 65)) := (Below.refl _ _).alloc (Nat.le_refl _) _
  have HT := Lib.hid (turn_any _ cb g 0 h (hcl.below hb0))
  by_cases hfull : 4611686018427387904 ≤ h.t
  · have e1 : setErr s h a e c = 51 := by unfold setErr; rw [if_pos hfull]
    have e2 : setSt s h a e c = s := by unfold setSt; rw [if_pos hfull]
    have e3 : setH s h a e c = h := by unfold setH; rw [e1, if_neg (by decide)]
    have fin : SetPost w0 w cb g s h a e c (.returned (.int .i64 51)) (w.alloc (.cells #[.int .i64 a, .int .i64 e, .int .i64 c] 65)) := by
      unfold SetPost
      rw [e1, e2, e3]
      exact ⟨rfl, hm.below hb0, hcl.below hb0, (OthersD.below hb0).c⟩
    have HF := Lib.hid fin
    clear fin e1 e2 e3 hm hcl hb0
    go_enter Try.func53, Try.ntmps53
    go_wp2_with (go_at_call 45; refine HT.out.mono ?_; rintro e w1 ⟨rfl, rfl⟩)
    go_ret
    exact HF.out
  · have hlt : h.t < 4611686018427387904 := by omega
    obtain ⟨V, hV⟩ : ∃ V, V = (w.alloc (.cells #[.int .i64 a, .int .i64 e, .int .i64 c] 65)).drew := ⟨_, rfl⟩
    have hbV : Below w.heap.size w V := by rw [hV]; exact hb0.drew
    have hbx : V.heap[w.heap.size]? = some (.cells #[.int .i64 a, .int .i64 e, .int .i64 c] 65 (0, 0)) := by rw [hV]; exact heap_alloc_new w _
    have HCV := Lib.hid (hcl.below hbV)
    have HMV := Lib.hid (hm.below hbV)
    have HBV := Lib.hid hbV
    have HBX := Lib.hid hbx
    have HV := Lib.hid hV
    have HTV := Lib.hid (turn_any V cb g 0 h (hcl.below hbV))
    have HDC := Lib.hid (And.intro hm hcl)
    clear hb0 hbV hbx hV hm hcl
    go_enter Try.func53, Try.ntmps53
    go_wp2_with (go_at_call 45; refine HT.out.mono ?_; rintro e w1 ⟨rfl, rfl⟩)
    clear HT
    refine wp_region_chain (s3V cb w.heap.size V.heap.size h.t a e c) (s3W V V.heap.size h.t a e c) (by kernel_rfl) (by kernel_rfl) HV.out ?_ ?_
    · refine ⟨?_, ?_, ?_, ?_, ?_, ?_, ?_, ?_, ?_, ?_, ?_, ?_, trivial⟩
      · intro x ls hcl hi hd hoff hf
        left
        refine ⟨rfl, ?_⟩
        have e0 : x.tmps.getD 0 undef = .pointer (some ⟨cb, 0, none⟩) := hoff.slot 0 (no_dst (by kernel_rfl))
        go_simp
        exact ⟨rfl, (s3W_keep (i := 0) (by decide) (by decide)).symm⟩
      · intro x ls hcl hi hd hoff hf
        left
        refine ⟨rfl, ?_⟩
        have e0 : x.tmps.getD 11 undef = .pointer (some ⟨cb, 0, none⟩) := hf 0 _ (hd 0 rfl) rfl
        have h9 : ls 9 = false := by
          have h2 : ls 2 = false := hcl.no hi rfl rfl
          exact hcl.no h2 rfl rfl
        have h11 : ls 11 = false := hcl.no h9 rfl rfl
        have hct : Calls Try.prog 45 #[.pointer (some ⟨cb, 0, none⟩)] (s3W V V.heap.size h.t a e c ls) fun en w' => en = .returned (.int .i64 h.t) ∧ s3W V V.heap.size h.t a e c ls = w' := by
          cases h10 : ls 10 with
          | false => rw [s3W_0 h11 h10]; exact HTV.out
          | true => rw [s3W_10 h11 h10]; exact turn_any _ cb g 0 h (HCV.out.below ((Below.refl _ _).alloc (Nat.le_refl _) _))
        go_simp
        refine hct.mono ?_
        rintro en w2 ⟨rfl, rfl⟩
        exact ⟨rfl, (s3W_keep (i := 1) (by decide) (by decide)).symm⟩
      · intro x ls hcl hi hd hoff hf
        left
        refine ⟨rfl, ?_⟩
        have e0 : x.tmps.getD 12 undef = .int .i64 h.t := hf 1 _ (hd 1 rfl) rfl
        have hwr : IntKind.i64.wrap (h.t + 1) = h.t + 1 := IntWalk.i64_in _ (by omega)
        go_simp
        exact ⟨rfl, (s3W_keep (i := 2) (by decide) (by decide)).symm⟩
      · intro x ls hcl hi hd hoff hf
        left
        refine ⟨rfl, ?_⟩
        have e0 : x.tmps.getD 3 undef = .pointer (some ⟨w.heap.size, 0, none⟩) := hoff.slot 3 (no_dst (by kernel_rfl))
        go_simp
        exact ⟨rfl, (s3W_keep (i := 3) (by decide) (by decide)).symm⟩
      · intro x ls hcl hi hd hoff hf
        left
        refine ⟨rfl, ?_⟩
        have e0 : x.tmps.getD 14 undef = .pointer (some ⟨w.heap.size, 0, none⟩) := hf 3 _ (hd 3 rfl) rfl
        have h9 : ls 9 = false := hcl.no hi rfl rfl
        have h11 : ls 11 = false := hcl.no h9 rfl rfl
        have hc : (s3W V V.heap.size h.t a e c ls).cell? ⟨w.heap.size, 0, none⟩ = some (.int .i64 a) := by
          cases h10 : ls 10 with
          | false => rw [s3W_0 h11 h10]; exact (box3 HBX.out).1
          | true => rw [s3W_10 h11 h10]; exact ((((Below.refl V.heap.size V).alloc (Nat.le_refl _) _).cell (p := ⟨w.heap.size, 0, none⟩) (Array.getElem?_eq_some_iff.1 HBX.out).1)).trans (box3 HBX.out).1
        go_simp
        exact ⟨rfl, (s3W_keep (i := 4) (by decide) (by decide)).symm⟩
      · intro x ls hcl hi hd hoff hf
        left
        refine ⟨rfl, ?_⟩
        have e0 : x.tmps.getD 3 undef = .pointer (some ⟨w.heap.size, 0, none⟩) := hoff.slot 3 (no_dst (by kernel_rfl))
        go_simp
        exact ⟨rfl, (s3W_keep (i := 5) (by decide) (by decide)).symm⟩
      · intro x ls hcl hi hd hoff hf
        left
        refine ⟨rfl, ?_⟩
        have e0 : x.tmps.getD 16 undef = .pointer (some ⟨w.heap.size, 1, none⟩) := hf 5 _ (hd 5 rfl) rfl
        have h9 : ls 9 = false := hcl.no hi rfl rfl
        have h11 : ls 11 = false := hcl.no h9 rfl rfl
        have hc : (s3W V V.heap.size h.t a e c ls).cell? ⟨w.heap.size, 1, none⟩ = some (.int .i64 e) := by
          cases h10 : ls 10 with
          | false => rw [s3W_0 h11 h10]; exact (box3 HBX.out).2.1
          | true => rw [s3W_10 h11 h10]; exact ((((Below.refl V.heap.size V).alloc (Nat.le_refl _) _).cell (p := ⟨w.heap.size, 1, none⟩) (Array.getElem?_eq_some_iff.1 HBX.out).1)).trans (box3 HBX.out).2.1
        go_simp
        exact ⟨rfl, (s3W_keep (i := 6) (by decide) (by decide)).symm⟩
      · intro x ls hcl hi hd hoff hf
        left
        refine ⟨rfl, ?_⟩
        have e0 : x.tmps.getD 3 undef = .pointer (some ⟨w.heap.size, 0, none⟩) := hoff.slot 3 (no_dst (by kernel_rfl))
        go_simp
        exact ⟨rfl, (s3W_keep (i := 7) (by decide) (by decide)).symm⟩
      · intro x ls hcl hi hd hoff hf
        left
        refine ⟨rfl, ?_⟩
        have e0 : x.tmps.getD 18 undef = .pointer (some ⟨w.heap.size, 2, none⟩) := hf 7 _ (hd 7 rfl) rfl
        have h9 : ls 9 = false := hcl.no hi rfl rfl
        have h11 : ls 11 = false := hcl.no h9 rfl rfl
        have hc : (s3W V V.heap.size h.t a e c ls).cell? ⟨w.heap.size, 2, none⟩ = some (.int .i64 c) := by
          cases h10 : ls 10 with
          | false => rw [s3W_0 h11 h10]; exact (box3 HBX.out).2.2
          | true => rw [s3W_10 h11 h10]; exact ((((Below.refl V.heap.size V).alloc (Nat.le_refl _) _).cell (p := ⟨w.heap.size, 2, none⟩) (Array.getElem?_eq_some_iff.1 HBX.out).1)).trans (box3 HBX.out).2.2
        go_simp
        exact ⟨rfl, (s3W_keep (i := 8) (by decide) (by decide)).symm⟩
      · intro x ls hcl hi hd hoff hf
        left
        refine ⟨rfl, ?_⟩
        have e0 : x.tmps.getD 13 undef = .int .i64 (h.t + 1) := hf 2 _ (hd 2 rfl) rfl
        have e1 : x.tmps.getD 15 undef = .int .i64 a := hf 4 _ (hd 4 rfl) rfl
        have e2 : x.tmps.getD 17 undef = .int .i64 e := hf 6 _ (hd 6 rfl) rfl
        have e3 : x.tmps.getD 19 undef = .int .i64 c := hf 8 _ (hd 8 rfl) rfl
        rw [Array.getD_eq_getD_getElem?] at e0 e1 e2 e3
        go_simp
        exact ⟨rfl, (s3W_keep (i := 9) (by decide) (by decide)).symm⟩
      · intro x ls hcl hi hd hoff hf
        left
        refine ⟨rfl, ?_⟩
        have h11 : ls 11 = false := hcl.no hi rfl rfl
        have hw : s3W V V.heap.size h.t a e c (updB ls 10) = s3A V := s3W_10 (by rw [updB_other ls (by decide)]; exact h11) (updB_at ls 10)
        rw [hw, s3W_0 h11 hi]
        go_simp
        exact ⟨rfl, rfl⟩
      · intro x ls hcl hi hd hoff hf
        left
        refine ⟨rfl, ?_⟩
        have e0 : x.tmps.getD 5 undef = .pointer (some ⟨V.heap.size, 0, none⟩) := hf 10 _ (hd 10 rfl) rfl
        have e1 : x.tmps.getD 20 undef = .agg #[.int .i64 (h.t + 1), .int .i64 a, .int .i64 e, .int .i64 c] := hf 9 _ (hd 9 rfl) rfl
        have hw : s3W V V.heap.size h.t a e c (updB ls 11) = s3B V V.heap.size h.t a e c := s3W_11 (updB_at ls 11)
        rw [hw, s3W_10 hi (hd 10 rfl)]
        obtain ⟨c0, c1, c2, c3, ff⟩ := box4 (show (s3A V).heap[V.heap.size]? = _ from heap_alloc_new V _)
        have f0 := ff 0
        have f1 := ff 1
        have f2 := ff 2
        have f3 := ff 3
        clear ff
        unfold s3B
        generalize s3A V = Y at *
        go_simp
    · intro x ls hl hoff hf
      have e5 : x.tmps.getD 5 undef = .pointer (some ⟨V.heap.size, 0, none⟩) := hf 10 _ rfl
      obtain ⟨ys, hys, ha⟩ := off_form hoff (mask := [false, false, false, false, false, true, false, false, false, false, false, true, true, true, true, true, true, true, true, true, true, false, false, false, false, false, false, false, false, false, false, false, false, false, false, false, false, false, false, false, false, false, false, false, false, false, false]) (by kernel_rfl)
      rw [hys] at e5
      subst ha
      simp only [fillFrom, Nat.zero_add, Nat.reduceAdd] at *
      rw [e5, s3W_11 (hl 11 (by decide))]
      clear e5 hys hoff hf hl
      obtain ⟨hk, hbk⟩ := s3B_facts (V := V) rfl h.t a e c
      have HK := Lib.hid hk
      have HBK := Lib.hid hbk
      clear hk hbk
      have hsz := HBV.out.size
      rename_i hKK
      refine hKK _ _ ?_
      clear hKK
      have HMX := Lib.hid (HMV.out.below HBK.out)
      have HCX := Lib.hid (HCV.out.below HBK.out)
      have HOX := Lib.hid (OthersD.below (HBV.out.trans (HBK.out.mono HBV.out.size)))
      clear HMV HCV HBV HBK HBX HV HTV HDC
      generalize s3B V V.heap.size h.t a e c = X at *
      generalize V.heap.size = k at *
      go_wp2_with fail
      have hX : S4J w0 w cb g k h (h.t + 1) a e c s (s.wSt (placeOf (h.t + 1)) (secB ⟨h.t + 1, a, e, c⟩)) (fun _ => false) X.drew :=
        ⟨HMX.out.below (Below.refl _ _).drew, HCX.out, HK.out, HOX.out.trans (OthersD.below (Below.refl _ _).drew)⟩
      refine wp_region_stepsJ (s4F 0 cb g k (h.t + 1) a e c (placeOf (h.t + 1)) (s.wErr (placeOf (h.t + 1)) 64)) OthersD (S4J w0 w cb g k h (h.t + 1) a e c s (s.wSt (placeOf (h.t + 1)) (secB ⟨h.t + 1, a, e, c⟩))) (by kernel_rfl) (by kernel_rfl) OthersD.refl (s4F_mono _ _ _ _ _ _ _ _ _ _) hX ?_ ?_
      · refine ⟨?_, ?_, ?_, ?_, ?_, ?_, ?_, ?_, ?_, ?_, ?_, ?_, trivial⟩
        · intro x W ls hJ hi hd hoff hf
          left
          refine ⟨rfl, ?_⟩
          have e0 : x.tmps.getD 0 undef = .pointer (some ⟨cb, 0, none⟩) := hoff.slot 0 (no_dst (by kernel_rfl))
          go_simp
          exact ⟨_, rfl, rfl, OthersD.refl _, hJ.keep (i := 0) (by decide)⟩
        · intro x W ls hJ hi hd hoff hf
          left
          refine ⟨rfl, ?_⟩
          have e0 : x.tmps.getD 21 undef = .pointer (some ⟨cb, 0, none⟩) := hf 0 _ (hd 0 rfl) rfl
          go_simp
          exact ⟨_, rfl, rfl, OthersD.refl _, hJ.keep (i := 1) (by decide)⟩
        · intro x W ls hJ hi hd hoff hf
          left
          refine ⟨rfl, ?_⟩
          have e0 : x.tmps.getD 22 undef = .pointer (some ⟨cb, 0, none⟩) := hf 1 _ (hd 1 rfl) rfl
          go_simp
          exact ⟨_, rfl, rfl, OthersD.refl _, hJ.keep (i := 2) (by decide)⟩
        · intro x W ls hJ hi hd hoff hf
          left
          refine ⟨rfl, ?_⟩
          have e0 : x.tmps.getD 23 undef = .pointer (some ⟨cb, 0, none⟩) := hf 2 _ (hd 2 rfl) rfl
          obtain ⟨c0, _, _, _, _, _, _⟩ := hJ.cl.cells
          go_simp
          exact ⟨_, rfl, rfl, OthersD.refl _, hJ.keep (i := 3) (by decide)⟩
        · intro x W ls hJ hi hd hoff hf
          left
          refine ⟨rfl, ?_⟩
          have e0 : x.tmps.getD 0 undef = .pointer (some ⟨cb, 0, none⟩) := hoff.slot 0 (no_dst (by kernel_rfl))
          go_simp
          exact ⟨_, rfl, rfl, OthersD.refl _, hJ.keep (i := 4) (by decide)⟩
        · intro x W ls hJ hi hd hoff hf
          left
          refine ⟨rfl, ?_⟩
          have e0 : x.tmps.getD 5 undef = .pointer (some ⟨k, 0, none⟩) := hoff.slot 5 (no_dst (by kernel_rfl))
          go_simp
          exact ⟨_, rfl, rfl, OthersD.refl _, hJ.keep (i := 5) (by decide)⟩
        · intro x W ls hJ hi hd hoff hf
          left
          refine ⟨rfl, ?_⟩
          have e0 : x.tmps.getD 26 undef = .pointer (some ⟨k, 0, none⟩) := hf 5 _ (hd 5 rfl) rfl
          obtain ⟨c0, _, _, _, _⟩ := box4 hJ.bx
          go_simp
          exact ⟨_, rfl, rfl, OthersD.refl _, hJ.keep (i := 6) (by decide)⟩
        · intro x W ls hJ hi hd hoff hf
          left
          refine ⟨rfl, ?_⟩
          have e0 : x.tmps.getD 25 undef = .pointer (some ⟨cb, 0, none⟩) := hf 4 _ (hd 4 rfl) rfl
          have e1 : x.tmps.getD 27 undef = .int .i64 (h.t + 1) := hf 6 _ (hd 6 rfl) rfl
          go_simp
          refine (place_any W cb g h hJ.cl (h.t + 1) (by omega)).mono ?_
          rintro en w2 ⟨rfl, rfl⟩
          exact ⟨_, rfl, rfl, OthersD.refl _, hJ.keep (i := 7) (by decide)⟩
        · intro x W ls hJ hi hd hoff hf
          left
          refine ⟨rfl, ?_⟩
          have e0 : x.tmps.getD 5 undef = .pointer (some ⟨k, 0, none⟩) := hoff.slot 5 (no_dst (by kernel_rfl))
          obtain ⟨c0, c1, c2, c3, _⟩ := box4 hJ.bx
          go_simp
          exact ⟨_, rfl, rfl, OthersD.refl _, hJ.keep (i := 8) (by decide)⟩
        · intro x W ls hJ hi hd hoff hf
          left
          refine ⟨rfl, ?_⟩
          have e0 : x.tmps.getD 29 undef = .agg #[.int .i64 (h.t + 1), .int .i64 a, .int .i64 e, .int .i64 c] := hf 8 _ (hd 8 rfl) rfl
          go_simp
          refine (sector_any (h.t + 1) a e c W).mono ?_
          rintro en w2 hp
          obtain ⟨A, kk, rfl, ho, hb⟩ := secB_row hp
          exact ⟨_, rfl, ⟨A, kk, rfl, own_mono ho (Nat.zero_le _)⟩, OthersD.below hb, ⟨by rw [updB_other ls (by decide)]; exact hJ.m.below hb, hJ.cl.below hb, (hb.block k (Array.getElem?_eq_some_iff.1 hJ.bx).1).trans hJ.bx, hJ.oth.trans (OthersD.below hb)⟩⟩
        · intro x W ls hJ hi hd hoff hf
          left
          refine ⟨rfl, ?_⟩
          have e0 : x.tmps.getD 24 undef = .pointer (some ⟨g, 0, none⟩) := hf 3 _ (hd 3 rfl) rfl
          have e1 : x.tmps.getD 28 undef = .int .i64 (placeOf (h.t + 1)) := hf 7 _ (hd 7 rfl) rfl
          obtain ⟨A, kk, e2, ho⟩ : ∃ A kk, x.tmps.getD 30 undef = .slice A 64 kk ∧ W.ownsRow 0 5 1 (x.tmps.getD 30 undef) 64 (bv (secB ⟨h.t + 1, a, e, c⟩)) := hf 9 _ (hd 9 rfl) rfl
          rw [e2] at ho
          have hm2 := hJ.m
          rw [hi, if_neg Bool.false_ne_true] at hm2
          go_simp
          refine (write_mineD hm2 (placeOf (h.t + 1)) A 64 kk _ (Hold.of_own ho) (by omega) (by omega)).mono ?_
          rintro en w2 ⟨rfl, hm3, hot⟩
          exact ⟨_, rfl, rfl, hot, ⟨by rw [updB_at, if_pos rfl]; exact hm3, hJ.cl.othersD hot, hot.2 k _ 99 (0, 0) hJ.bx (by decide) (by decide) (by decide), hJ.oth.trans hot⟩⟩
        · intro x W ls hJ hi hd hoff hf
          left
          refine ⟨rfl, ?_⟩
          have e0 : x.tmps.getD 31 undef = .int .i64 (s.wErr (placeOf (h.t + 1)) 64) := hf 10 _ (hd 10 rfl) rfl
          go_simp
          exact ⟨_, rfl, rfl, OthersD.refl _, hJ.keep (i := 11) (by decide)⟩
      · intro x W ls hl hJ hoff hf
        have e6 : x.tmps.getD 6 undef = .int .i64 (s.wErr (placeOf (h.t + 1)) 64) := hf 11 _ rfl
        have hm2 := hJ.m
        rw [hl 10 (by decide), if_pos rfl] at hm2
        obtain ⟨ys, hys, ha⟩ := off_form hoff (mask := [false, false, false, false, false, false, true, false, false, false, false, false, false, false, false, false, false, false, false, false, false, true, true, true, true, true, true, true, true, true, true, true, false, false, false, false, false, false, false, false, false, false, false, false, false, false, false]) (by kernel_rfl)
        rw [hys] at e6
        subst ha
        simp only [fillFrom, Nat.zero_add, Nat.reduceAdd] at *
        rw [e6]
        have HM2 := Lib.hid hm2
        have HJ := Lib.hid hJ
        clear e6 hys hoff hf hl hX hm2 hJ HMX HCX HOX HK
        rename_i hKK
        refine hKK _ _ ?_
        clear hKK
        have hs2b : (s.wSt (placeOf (h.t + 1)) (secB ⟨h.t + 1, a, e, c⟩)).buf.length ≤ 1099511627777 := by
          unfold D.wSt
          split
          · omega
          · split
            · omega
            · rw [List.length_append]; simp; omega
        by_cases her : s.wErr (placeOf (h.t + 1)) 64 = 0
        · have e1 : setErr s h a e c = (s.wSt (placeOf (h.t + 1)) (secB ⟨h.t + 1, a, e, c⟩)).fErr := by unfold setErr; rw [if_neg (by omega : ¬ 4611686018427387904 ≤ h.t), if_neg (fun x => x her)]; rfl
          have e2 : setSt s h a e c = (s.wSt (placeOf (h.t + 1)) (secB ⟨h.t + 1, a, e, c⟩)).fSt := by unfold setSt; rw [if_neg (by omega : ¬ 4611686018427387904 ≤ h.t), if_neg (fun x => x her)]; rfl
          rw [her]
          have HFL := Lib.hid (flush_mineD HM2.out (Nat.le_trans hs2b (by omega)))
          have HE := Lib.hid (And.intro e1 e2)
          obtain ⟨c0, _, _, _, _, _, _⟩ := HJ.out.cl.cells
          clear e1 e2 her hs2b
          generalize s.wSt (placeOf (h.t + 1)) (secB ⟨h.t + 1, a, e, c⟩) = s2 at *
          go_wp2_with fail
          refine HFL.out.mono ?_
          rintro en W2 ⟨rfl, hm3, ho3⟩
          have hc3 := HJ.out.cl.othersD ho3
          have hb3 := ho3.2 k _ 99 (0, 0) HJ.out.bx (by decide) (by decide) (by decide)
          have HM3 := Lib.hid hm3
          have HC3 := Lib.hid hc3
          have HB3 := Lib.hid hb3
          have HO3 := Lib.hid (HJ.out.oth.trans ho3)
          clear hm3 hc3 hb3 ho3 HFL c0
          by_cases hfe : s2.fErr = 0
          · rw [hfe]
            obtain ⟨d0, d1, d2, d3, d4, d5, df⟩ := HC3.out.cells
            obtain ⟨b0, b1, b2, b3, _⟩ := box4 HB3.out
            have df2 := df 2
            have df3 := df 3
            have df4 := df 4
            have df5 := df 5
            have hset := HC3.out.set ⟨h.t + 1, a, e, c⟩
            have hchg := HC3.out.setC ⟨h.t + 1, a, e, c⟩
            have HS := Lib.hid hset
            have HCH := Lib.hid hchg
            have HFE := Lib.hid hfe
            clear hset hchg df hfe
            go_wp2_with fail
            go_ret
            refine ⟨by rw [HE.out.1, HFE.out]; rfl, ?_, ?_, HO3.out.c.trans (OthersC.chg HC3.out HCH.out)⟩
            · rw [HE.out.2]
              exact HM3.out.frame HCH.out (fun b hb => by subst hb; exact hcb) (fun b hb => by subst hb; exact ⟨_, _, _, HC3.out, by decide, by decide, by decide⟩)
            · unfold setH
              rw [HE.out.1, HFE.out, if_pos rfl]
              exact HS.out
          · have HFE := Lib.hid hfe
            go_wp2_with fail
            go_ret
            refine ⟨by rw [HE.out.1]; rfl, by rw [HE.out.2]; exact HM3.out, ?_, HO3.out.c⟩
            unfold setH
            rw [HE.out.1, if_neg HFE.out]
            exact HC3.out
        · have e1 : setErr s h a e c = s.wErr (placeOf (h.t + 1)) 64 := by unfold setErr; rw [if_neg (by omega : ¬ 4611686018427387904 ≤ h.t), if_pos her]
          have e2 : setSt s h a e c = s.wSt (placeOf (h.t + 1)) (secB ⟨h.t + 1, a, e, c⟩) := by unfold setSt; rw [if_neg (by omega : ¬ 4611686018427387904 ≤ h.t), if_pos her]; rfl
          have HE := Lib.hid (And.intro e1 e2)
          have HER := Lib.hid her
          clear e1 e2 hs2b
          generalize s.wErr (placeOf (h.t + 1)) 64 = er at *
          go_wp2_with fail
          go_ret
          refine ⟨by rw [HE.out.1]; rfl, by rw [HE.out.2]; exact HM2.out, ?_, HJ.out.oth.c⟩
          unfold setH
          rw [HE.out.1, if_neg HER.out]
          exact HJ.out.cl
end Go.Proofs.Ytbfhlleipeipbaa

/- What is proved: the contract of cell.Open on a disk that is up. Conditions: those in each statement. -/
namespace Go.Proofs.Ytbfhlleipeipbaa
open Go.RowKit

def pickH (h n : H4) : H4 := if h.t < n.t then n else h
theorem pickH_gt {h n : H4} (k : h.t < n.t) : pickH h n = n := by unfold pickH; rw [if_pos k]
theorem pickH_le {h n : H4} (k : ¬ h.t < n.t) : pickH h n = h := by unfold pickH; rw [if_neg k]
def openP (s : D) : Nat → H4
  | 0 => H4.zero
  | j + 1 => pickH (openP s j) (toldOf (s.told j))
theorem openP_zero (s : D) : openP s 0 = H4.zero := by rw [openP]
theorem openP_succ (s : D) (j : Nat) : openP s (j + 1) = pickH (openP s j) (toldOf (s.told j)) := by rw [openP]
def openH (s : D) : H4 := openP s 2
theorem openH_eq (s : D) : openH s = pickH (pickH H4.zero (toldOf (s.told 0))) (toldOf (s.told 1)) := by unfold openH; rw [openP_succ, openP_succ, openP_zero]
theorem zin (x : Int) (h : x = 0) : -9223372036854775808 ≤ x ∧ x ≤ 9223372036854775807 := by omega
theorem zero_in : H4.zero.In := ⟨zin _ rfl, zin _ rfl, zin _ rfl, zin _ rfl⟩
theorem toldOf_in (l : List UInt8) : (toldOf l).In := by
  by_cases h : rdH l = rdH (l.drop 32)
  · have : toldOf l = rdH l := by unfold toldOf; rw [if_pos h]
    rw [this]; exact rdH_in l
  · have : toldOf l = H4.zero := by unfold toldOf; rw [if_neg h]
    rw [this]; exact zero_in
theorem pickH_in {h n : H4} (hh : h.In) (hn : n.In) : (pickH h n).In := by
  by_cases k : h.t < n.t
  · rw [pickH_gt k]; exact hn
  · rw [pickH_le k]; exact hh
theorem openH_in (s : D) : (openH s).In := by
  rw [openH_eq]; exact pickH_in (pickH_in zero_in (toldOf_in _)) (toldOf_in _)
/-- what Open answers -/
def COpenPost (w : World) (g : Nat) (h : H4) (e : Ending) (w' : World) : Prop := ∃ cb, e = .returned (.tuple #[.pointer (some ⟨cb, 0, none⟩), .int .i64 0]) ∧ w.heap.size ≤ cb ∧ Cl w' cb g 0 h ∧ Below w.heap.size w w'
theorem pair0 (W : World) : (Instr.index 102 (.agg #[.int .i64 0, .int .i64 1]) (.int .i64 0)).run Try.prog W = .ok (.int .i64 0) W := by
  simp [Instr.index, run_underlying Try.underlying102, asIntOf, part, Try.isAgg3, Try.sizeOf3, go_sem]
theorem pair1 (W : World) : (Instr.index 102 (.agg #[.int .i64 0, .int .i64 1]) (.int .i64 1)).run Try.prog W = .ok (.int .i64 1) W := by
  simp [Instr.index, run_underlying Try.underlying102, asIntOf, part, Try.isAgg3, Try.sizeOf3, go_sem]
def coF (cb k : Nat) (t h : Int) : Nat → Value → World → Prop
  | 0, v, _ => v = .pointer (some ⟨k, 0, none⟩)
  | 1, v, _ => v = .int .i64 t
  | 2, v, _ => v = .pointer (some ⟨cb, 0, none⟩)
  | 3, v, _ => v = .int .i64 h
  | 4, v, _ => v = .bool (decide (h < t))
  | _, _, _ => True
theorem coF_mono (cb k : Nat) (t h : Int) (i : Nat) (v : Value) (w w' : World) (f : coF cb k t h i v w) (_ : Below w.heap.size w w') : coF cb k t h i v w' := by
  match i with
  | 0 | 1 | 2 | 3 | 4 => exact f
  | _ + 5 => trivial
theorem cell_new {w W : World} {g : Nat} {h : H4} (n : H4) (hb : Below w.heap.size w W) (hc : Cl W w.heap.size g 0 h) :
    Below w.heap.size w ((((W.setCell ⟨w.heap.size, 2, none⟩ (.int .i64 n.t)).setCell ⟨w.heap.size, 3, none⟩ (.int .i64 n.a)).setCell ⟨w.heap.size, 4, none⟩ (.int .i64 n.e)).setCell ⟨w.heap.size, 5, none⟩ (.int .i64 n.c)) ∧
    Cl ((((W.setCell ⟨w.heap.size, 2, none⟩ (.int .i64 n.t)).setCell ⟨w.heap.size, 3, none⟩ (.int .i64 n.a)).setCell ⟨w.heap.size, 4, none⟩ (.int .i64 n.e)).setCell ⟨w.heap.size, 5, none⟩ (.int .i64 n.c)) w.heap.size g 0 n :=
  ⟨(((hb.setCell (Nat.le_refl _) _).setCell (Nat.le_refl _) _).setCell (Nat.le_refl _) _).setCell (Nat.le_refl _) _, hc.set n⟩

set_option maxRecDepth 100000 in
set_option maxHeartbeats 2000000 in
theorem copen_any (w0 w : World) (g : Nat) (s : D) (hm : Mine w0 w g s) (hup : s.left ≠ 0) (hN : 2 ≤ s.last.length) (hbuf : s.buf.length ≤ 1099511627776) :
    Calls Try.prog 26 #[.pointer (some ⟨g, 0, none⟩), .int .i64 0] w (COpenPost w g (openH s)) := by
  have hr0 : s.refuse 0 = 0 := by unfold D.refuse; rw [if_neg hup, if_neg (by omega)]
  have hr1 : s.refuse 1 = 0 := by unfold D.refuse; rw [if_neg hup, if_neg (by omega)]
  have hok := hm.ok
  have ht0 : (s.told 0).length = 64 := hok.told_len (by omega)
  have ht1 : (s.told 1).length = 64 := hok.told_len (by omega)
  have HT0 := Lib.hid ht0
  have HT1 := Lib.hid ht1
  have HR0 := Lib.hid hr0
  have HR1 := Lib.hid hr1
  have HM := Lib.hid hm
  have hb0 : Below w.heap.size w (w.alloc (.cells #[.pointer (some ⟨g, 0, none⟩), .int .i64 0, .int .i64 0, .int .i64 0, .int .i64 0, .int .i64 0] 101)) := (Below.refl _ _).alloc (Nat.le_refl _) _
  have hc0 : Cl (w.alloc (.cells #[.pointer (some ⟨g, 0, none⟩), .int .i64 0, .int .i64 0, .int .i64 0, .int .i64 0, .int .i64 0] 101)) w.heap.size g 0 H4.zero := heap_alloc_new w _
  have HB0 := Lib.hid hb0
  have HC0 := Lib.hid hc0
  clear hm hok ht0 ht1 hr0 hr1 hup hb0 hc0
  have hbu : s.buf.length ≤ 4611686018427387904 := by omega
  go_enter Try.func26, Try.ntmps26
  go_wp2_with fail
  generalize w.alloc (.cells #[.pointer (some ⟨g, 0, none⟩), .int .i64 0, .int .i64 0, .int .i64 0, .int .i64 0, .int .i64 0] 101) = W0 at *
  go_loopg [8, 9, 10, 11, 20] 2 (fun kx _ _ _ _ v20 wr => ∃ (j : Nat), v20 = .int .i64 (j : Int) ∧ j ≤ 2 ∧ 2 - j ≤ kx ∧ Aside (Cl wr w.heap.size g 0 (openP s j)) ∧ Aside (Below w.heap.size w wr))
  case atStart =>
    have HC0' : Cl W0 w.heap.size g 0 (openP s 0) := by rw [openP_zero]; exact HC0.out
    exact ⟨0, rfl, by omega, by omega, (HC0' : Aside _), (HB0.out : Aside _)⟩
  case round =>
    clear HC0 HB0
    obtain ⟨j, rfl, hj2, hkx, HC, HB⟩ := hrel
    by_cases hlt : j < 2
    · rcases (show j = 0 ∨ j = 1 by omega) with rfl | rfl
      · have hix := fun W => pair0 W
        have hmr := HM.out.below HB.out
        have hrd := read_ok hmr 0 hbu HR0.out
        rw [show Int.toNat 0 = 0 from rfl] at hrd
        have HRD := Lib.hid hrd
        clear hrd
        go_wp2_with fail
        clear hix
        refine HRD.out.mono ?_
        rintro e w1 ⟨k, rfl, hk, hkb, hb1⟩
        have hh := Hold.block hkb 64 HT0.out.symm
        have hto := told_any' (some ⟨k, 0, none⟩) 64 64 _ w1 hh (by have := HT0.out; omega) (by omega)
        obtain ⟨n, hn⟩ : ∃ n, n = toldOf (s.told 0) := ⟨_, rfl⟩
        have hP : openP s (0 + 1) = pickH (openP s 0) n := by rw [hn, openP_succ]
        have HP := Lib.hid hP
        rw [← hn] at hto
        obtain ⟨n0, n1, n2, n3⟩ := n
        unfold ToldPost at hto
        simp only [H4.val] at hto
        have HTO := Lib.hid hto
        clear hP hn hto
        have HB1 := Lib.hid (HB.out.trans (hb1.mono HB.out.size))
        have HC1 := Lib.hid (HC.out.below hb1)
        clear hmr HRD hk hkb hb1 hh HC HB
        go_wp2_with (go_at_call 44; refine HTO.out.mono ?_; rintro e w2 ⟨rfl, hb2⟩; have HB2 := Lib.hid (HB1.out.trans (hb2.mono HB1.out.size)); have HC2 := Lib.hid (HC1.out.below hb2); clear hb2 HB1 HC1 HTO)
        generalize openP s 0 = p at *
        obtain ⟨p0, p1, p2, p3⟩ := p
        have hbx : (w2.alloc (.cells #[.int .i64 n0, .int .i64 n1, .int .i64 n2, .int .i64 n3] 99)).drew.heap[w2.heap.size]? = some (.cells #[.int .i64 n0, .int .i64 n1, .int .i64 n2, .int .i64 n3] 99 (0, 0)) := heap_alloc_new w2 _
        have hb3 : Below w2.heap.size w2 (w2.alloc (.cells #[.int .i64 n0, .int .i64 n1, .int .i64 n2, .int .i64 n3] 99)).drew := ((Below.refl _ _).alloc (Nat.le_refl _) _).drew
        have HB3 := Lib.hid (HB2.out.trans (hb3.mono HB2.out.size))
        have HC3 := Lib.hid (HC2.out.below hb3)
        have HBX := Lib.hid hbx
        clear hbx hb3
        refine wp_region_steps (coF w.heap.size w2.heap.size n0 p0) (fun w w' => Below w.heap.size w w') (by kernel_rfl) (by kernel_rfl) (fun w => Below.refl _ _) (fun _ _ _ h k => h.trans (k.mono h.size)) (coF_mono _ _ _ _) ?_ ?_
        · refine ⟨?_, ?_, ?_, ?_, ?_, trivial⟩
          · intro x Y hR hoff hd
            left
            refine ⟨rfl, ?_⟩
            have e0 : x.tmps.getD 11 undef = .pointer (some ⟨w2.heap.size, 0, none⟩) := hoff.slot 11 (no_dst (by kernel_rfl))
            go_simp
            exact ⟨_, rfl, rfl, Below.refl _ _⟩
          · intro x Y hR hoff hd
            left
            refine ⟨rfl, ?_⟩
            have e0 : x.tmps.getD 34 undef = .pointer (some ⟨w2.heap.size, 0, none⟩) := hd 0 _ rfl rfl
            obtain ⟨c0, _⟩ := box4 ((hR.block _ (Array.getElem?_eq_some_iff.1 HBX.out).1).trans HBX.out)
            go_simp
            exact ⟨_, rfl, rfl, Below.refl _ _⟩
          · intro x Y hR hoff hd
            left
            refine ⟨rfl, ?_⟩
            have e0 : x.tmps.getD 6 undef = .pointer (some ⟨w.heap.size, 0, none⟩) := hoff.slot 6 (no_dst (by kernel_rfl))
            go_simp
            exact ⟨_, rfl, rfl, Below.refl _ _⟩
          · intro x Y hR hoff hd
            left
            refine ⟨rfl, ?_⟩
            have e0 : x.tmps.getD 36 undef = .pointer (some ⟨w.heap.size, 0, none⟩) := hd 2 _ rfl rfl
            go_simp
            refine (turn_any Y w.heap.size g 0 _ (HC3.out.below hR)).mono ?_
            rintro e Y2 ⟨rfl, rfl⟩
            exact ⟨_, rfl, rfl, Below.refl _ _⟩
          · intro x Y hR hoff hd
            left
            refine ⟨rfl, ?_⟩
            have e0 : x.tmps.getD 35 undef = .int .i64 n0 := hd 1 _ rfl rfl
            have e1 : x.tmps.getD 37 undef = .int .i64 p0 := hd 3 _ rfl rfl
            go_simp
            exact ⟨_, rfl, rfl, Below.refl _ _⟩
        · intro x Y hR hoff hd
          have e38 : x.tmps.getD 38 undef = .bool (decide (p0 < n0)) := hd 4 _ rfl
          have hbY : Below w.heap.size w Y := HB3.out.trans (hR.mono HB3.out.size)
          have hcY := HC3.out.below hR
          obtain ⟨b0, b1, b2, b3, bf⟩ := box4 ((hR.block _ (Array.getElem?_eq_some_iff.1 HBX.out).1).trans HBX.out)
          obtain ⟨ys, hys, ha⟩ := off_form hoff (mask := [false, false, false, false, false, false, false, false, false, false, false, false, false, false, false, false, false, false, false, false, false, false, false, false, false, false, false, false, false, false, false, false, false, false, true, true, true, true, true, false, false, false, false, false, false]) (by kernel_rfl)
          rw [hys] at e38
          subst ha
          simp only [fillFrom, Nat.zero_add, Nat.reduceAdd] at *
          rw [e38]
          have HBY := Lib.hid hbY
          have HCY := Lib.hid hcY
          clear bf e38 hys hoff hd hR hbY hcY HB3 HC3 HBX HB2 HC2
          rename_i hKK
          refine hKK _ _ ?_
          clear hKK
          by_cases hgt : p0 < n0
          · obtain ⟨d0, d1, d2, d3, d4, d5, df⟩ := HCY.out.cells
            have df2 := df 2
            have df3 := df 3
            have df4 := df 4
            have df5 := df 5
            obtain ⟨hbn, hcn⟩ := cell_new ⟨n0, n1, n2, n3⟩ HBY.out HCY.out
            have hpk : pickH ⟨p0, p1, p2, p3⟩ ⟨n0, n1, n2, n3⟩ = ⟨n0, n1, n2, n3⟩ := pickH_gt hgt
            have HPK := Lib.hid (HP.out.trans hpk)
            have HBN := Lib.hid hbn
            have HCN := Lib.hid hcn
            clear hbn hcn hpk df
            go_wp2_with fail
            go_roundg (2 - (0 + 1))
            case measure => omega
            case rel => exact ⟨0 + 1, rfl, by omega, Nat.le_refl _, (by rw [HPK.out]; exact HCN.out), (HBN.out : Aside _)⟩
          · have hpk : pickH ⟨p0, p1, p2, p3⟩ ⟨n0, n1, n2, n3⟩ = ⟨p0, p1, p2, p3⟩ := pickH_le hgt
            have hcn' : Cl Y w.heap.size g 0 (openP s (0 + 1)) := by rw [HP.out, hpk]; exact HCY.out
            have HCN := Lib.hid hcn'
            clear hcn' hpk
            go_wp2_with fail
            go_roundg (2 - (0 + 1))
            case measure => omega
            case rel => exact ⟨0 + 1, rfl, by omega, Nat.le_refl _, (HCN.out : Aside _), (HBY.out : Aside _)⟩
      · have hix := fun W => pair1 W
        have hmr := HM.out.below HB.out
        have hrd := read_ok hmr 1 hbu HR1.out
        rw [show Int.toNat 1 = 1 from rfl] at hrd
        have HRD := Lib.hid hrd
        clear hrd
        go_wp2_with fail
        clear hix
        refine HRD.out.mono ?_
        rintro e w1 ⟨k, rfl, hk, hkb, hb1⟩
        have hh := Hold.block hkb 64 HT1.out.symm
        have hto := told_any' (some ⟨k, 0, none⟩) 64 64 _ w1 hh (by have := HT1.out; omega) (by omega)
        obtain ⟨n, hn⟩ : ∃ n, n = toldOf (s.told 1) := ⟨_, rfl⟩
        have hP : openP s (1 + 1) = pickH (openP s 1) n := by rw [hn, openP_succ]
        have HP := Lib.hid hP
        rw [← hn] at hto
        obtain ⟨n0, n1, n2, n3⟩ := n
        unfold ToldPost at hto
        simp only [H4.val] at hto
        have HTO := Lib.hid hto
        clear hP hn hto
        have HB1 := Lib.hid (HB.out.trans (hb1.mono HB.out.size))
        have HC1 := Lib.hid (HC.out.below hb1)
        clear hmr HRD hk hkb hb1 hh HC HB
        go_wp2_with (go_at_call 44; refine HTO.out.mono ?_; rintro e w2 ⟨rfl, hb2⟩; have HB2 := Lib.hid (HB1.out.trans (hb2.mono HB1.out.size)); have HC2 := Lib.hid (HC1.out.below hb2); clear hb2 HB1 HC1 HTO)
        generalize openP s 1 = p at *
        obtain ⟨p0, p1, p2, p3⟩ := p
        have hbx : (w2.alloc (.cells #[.int .i64 n0, .int .i64 n1, .int .i64 n2, .int .i64 n3] 99)).drew.heap[w2.heap.size]? = some (.cells #[.int .i64 n0, .int .i64 n1, .int .i64 n2, .int .i64 n3] 99 (0, 0)) := heap_alloc_new w2 _
        have hb3 : Below w2.heap.size w2 (w2.alloc (.cells #[.int .i64 n0, .int .i64 n1, .int .i64 n2, .int .i64 n3] 99)).drew := ((Below.refl _ _).alloc (Nat.le_refl _) _).drew
        have HB3 := Lib.hid (HB2.out.trans (hb3.mono HB2.out.size))
        have HC3 := Lib.hid (HC2.out.below hb3)
        have HBX := Lib.hid hbx
        clear hbx hb3
        refine wp_region_steps (coF w.heap.size w2.heap.size n0 p0) (fun w w' => Below w.heap.size w w') (by kernel_rfl) (by kernel_rfl) (fun w => Below.refl _ _) (fun _ _ _ h k => h.trans (k.mono h.size)) (coF_mono _ _ _ _) ?_ ?_
        · refine ⟨?_, ?_, ?_, ?_, ?_, trivial⟩
          · intro x Y hR hoff hd
            left
            refine ⟨rfl, ?_⟩
            have e0 : x.tmps.getD 11 undef = .pointer (some ⟨w2.heap.size, 0, none⟩) := hoff.slot 11 (no_dst (by kernel_rfl))
            go_simp
            exact ⟨_, rfl, rfl, Below.refl _ _⟩
          · intro x Y hR hoff hd
            left
            refine ⟨rfl, ?_⟩
            have e0 : x.tmps.getD 34 undef = .pointer (some ⟨w2.heap.size, 0, none⟩) := hd 0 _ rfl rfl
            obtain ⟨c0, _⟩ := box4 ((hR.block _ (Array.getElem?_eq_some_iff.1 HBX.out).1).trans HBX.out)
            go_simp
            exact ⟨_, rfl, rfl, Below.refl _ _⟩
          · intro x Y hR hoff hd
            left
            refine ⟨rfl, ?_⟩
            have e0 : x.tmps.getD 6 undef = .pointer (some ⟨w.heap.size, 0, none⟩) := hoff.slot 6 (no_dst (by kernel_rfl))
            go_simp
            exact ⟨_, rfl, rfl, Below.refl _ _⟩
          · intro x Y hR hoff hd
            left
            refine ⟨rfl, ?_⟩
            have e0 : x.tmps.getD 36 undef = .pointer (some ⟨w.heap.size, 0, none⟩) := hd 2 _ rfl rfl
            go_simp
            refine (turn_any Y w.heap.size g 0 _ (HC3.out.below hR)).mono ?_
            rintro e Y2 ⟨rfl, rfl⟩
            exact ⟨_, rfl, rfl, Below.refl _ _⟩
          · intro x Y hR hoff hd
            left
            refine ⟨rfl, ?_⟩
            have e0 : x.tmps.getD 35 undef = .int .i64 n0 := hd 1 _ rfl rfl
            have e1 : x.tmps.getD 37 undef = .int .i64 p0 := hd 3 _ rfl rfl
            go_simp
            exact ⟨_, rfl, rfl, Below.refl _ _⟩
        · intro x Y hR hoff hd
          have e38 : x.tmps.getD 38 undef = .bool (decide (p0 < n0)) := hd 4 _ rfl
          have hbY : Below w.heap.size w Y := HB3.out.trans (hR.mono HB3.out.size)
          have hcY := HC3.out.below hR
          obtain ⟨b0, b1, b2, b3, bf⟩ := box4 ((hR.block _ (Array.getElem?_eq_some_iff.1 HBX.out).1).trans HBX.out)
          obtain ⟨ys, hys, ha⟩ := off_form hoff (mask := [false, false, false, false, false, false, false, false, false, false, false, false, false, false, false, false, false, false, false, false, false, false, false, false, false, false, false, false, false, false, false, false, false, false, true, true, true, true, true, false, false, false, false, false, false]) (by kernel_rfl)
          rw [hys] at e38
          subst ha
          simp only [fillFrom, Nat.zero_add, Nat.reduceAdd] at *
          rw [e38]
          have HBY := Lib.hid hbY
          have HCY := Lib.hid hcY
          clear bf e38 hys hoff hd hR hbY hcY HB3 HC3 HBX HB2 HC2
          rename_i hKK
          refine hKK _ _ ?_
          clear hKK
          by_cases hgt : p0 < n0
          · obtain ⟨d0, d1, d2, d3, d4, d5, df⟩ := HCY.out.cells
            have df2 := df 2
            have df3 := df 3
            have df4 := df 4
            have df5 := df 5
            obtain ⟨hbn, hcn⟩ := cell_new ⟨n0, n1, n2, n3⟩ HBY.out HCY.out
            have hpk : pickH ⟨p0, p1, p2, p3⟩ ⟨n0, n1, n2, n3⟩ = ⟨n0, n1, n2, n3⟩ := pickH_gt hgt
            have HPK := Lib.hid (HP.out.trans hpk)
            have HBN := Lib.hid hbn
            have HCN := Lib.hid hcn
            clear hbn hcn hpk df
            go_wp2_with fail
            go_roundg (2 - (1 + 1))
            case measure => omega
            case rel => exact ⟨1 + 1, rfl, by omega, Nat.le_refl _, (by rw [HPK.out]; exact HCN.out), (HBN.out : Aside _)⟩
          · have hpk : pickH ⟨p0, p1, p2, p3⟩ ⟨n0, n1, n2, n3⟩ = ⟨p0, p1, p2, p3⟩ := pickH_le hgt
            have hcn' : Cl Y w.heap.size g 0 (openP s (1 + 1)) := by rw [HP.out, hpk]; exact HCY.out
            have HCN := Lib.hid hcn'
            clear hcn' hpk
            go_wp2_with fail
            go_roundg (2 - (1 + 1))
            case measure => omega
            case rel => exact ⟨1 + 1, rfl, by omega, Nat.le_refl _, (HCN.out : Aside _), (HBY.out : Aside _)⟩
    · obtain rfl : j = 2 := by omega
      go_wp2_with fail
      go_ret2
      exact ⟨_, rfl, Nat.le_refl _, HC.out, HB.out⟩
end Go.Proofs.Ytbfhlleipeipbaa
