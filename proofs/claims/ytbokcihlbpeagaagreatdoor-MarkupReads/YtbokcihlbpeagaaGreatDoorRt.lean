/-
  What is proved: contracts of markup's ways, declaration and next. Conditions: those in each statement.
-/
import Derived.Test.YtbokcihlbpeagaaGreatDoorRs
import Derived.Laws.EntriesVeiled
namespace Go.Proofs.YtbokcihlbpeagaaGreatDoor
open Go.RowKit

/-- the ways of the reader in block g -/
def WaysB (w : World) (g : Nat) : Prop := w.heap[g]? = some (.cells #[.string ⟨#[60, 33, 45, 45]⟩, .func (Fn.func 55) #[] #[], .string ⟨#[60, 33, 91, 67, 68, 65, 84, 65, 91]⟩, .func (Fn.func 56) #[] #[], .string ⟨#[60, 47]⟩, .func (Fn.func 57) #[] #[], .string ⟨#[60]⟩, .func (Fn.func 58) #[] #[], .string ⟨#[]⟩, .func (Fn.func 59) #[] #[]] 92 (0, 0))
set_option maxHeartbeats 4000000 in
set_option maxRecDepth 100000 in
theorem ways_any (w : World) : Calls Tryz.prog 38 #[] w fun e w' => e = .returned (.slice (some ⟨w.heap.size, 0, none⟩) 5 5) ∧ WaysB w' w.heap.size ∧ Below w.heap.size w w' := by
  go_enter Tryz.func38, Tryz.ntmps38
  go_wp2
  go_ret
  exact ⟨rfl, heap_at _ _ _ rfl, (Below.refl _ _).alloc (Nat.le_refl _) _⟩
theorem hd_drop_cons {l : List UInt8} {n : Nat} {b : UInt8} {t : List UInt8} (h : l.drop n = b :: t) : hd (l.drop n) = b.toNat := by rw [h]; rfl
set_option maxHeartbeats 4000000 in
set_option maxRecDepth 100000 in
theorem declaration_any (w : World) (p : Nat) (s : ByteArray) (mv : Value) (h : Rd w p s 0 0 mv) (hG : Glob w) (hs : s.size ≤ 65536) :
    Calls Tryz.prog 39 #[.pointer (some ⟨p, 0, none⟩)] w (RdPost w p s 0 0 mv (declO (tl s 0)) (fun _ => .tuple #[])) := by
  have c0 := h.c0
  have ht : tl s 0 = s.data.toList := rfl
  have HR := Lib.hid h
  have HU := Lib.hid (upTo_any w p s 0 0 mv ⟨#[63, 62]⟩ (by decide) h hG (Nat.zero_le _) hs)
  rw [show (⟨#[63, 62]⟩ : ByteArray).data.toList = [63, 62] from rfl] at HU
  clear h hG hs
  cases hp : Lib.hasPrefix s.data.toList [60, 63, 120, 109, 108] with
  | false =>
    have HC := Lib.hid (cutP s ⟨#[60, 63, 120, 109, 108]⟩ false _ rfl hp)
    rw [show declO (tl s 0) = .ok () 0 by unfold declO declB; rw [ht, hp]; rfl]
    clear hp HU ht
    go_enter Tryz.func39, Tryz.ntmps39
    go_wp2_with (go_at_call 60; refine (HC.out _).mono ?_; rintro e w2 ⟨rfl, rfl⟩)
    go_end0
    exact ⟨rfl, HR.out, Mv.refl _ _⟩
  | true =>
    have HC := Lib.hid (cutP s ⟨#[60, 63, 120, 109, 108]⟩ true _ (trim_has hp) hp)
    rw [show (⟨#[60, 63, 120, 109, 108]⟩ : ByteArray).data.toList.length = 5 from rfl] at HC
    cases hr : s.data.toList.drop 5 with
    | nil =>
      rw [show declO (tl s 0) = .ok () 0 by unfold declO declB; rw [ht, hp, hr]; rfl]
      rw [hr] at HC
      clear hp HU ht hr
      go_enter Tryz.func39, Tryz.ntmps39
      go_wp2_with (go_at_call 60; refine (HC.out _).mono ?_; rintro e w2 ⟨rfl, rfl⟩)
      go_end0
      exact ⟨rfl, HR.out, Mv.refl _ _⟩
    | cons b t =>
      rw [hr] at HC
      cases hw : isW b.toNat with
      | false =>
        rw [show declO (tl s 0) = .ok () 0 by unfold declO declB; rw [ht, hp, hd_drop_cons hr, hw]; rfl]
        have HWH := Lib.hid (fun W => white_is b.toNat false hw.symm W)
        clear hp HU ht hr hw
        go_enter Tryz.func39, Tryz.ntmps39
        go_wp2_with (first
          | (go_at_call 60; refine (HC.out _).mono ?_; rintro e w2 ⟨rfl, rfl⟩)
          | (go_at_call 61; refine (HWH.out _).mono ?_; rintro e w2 ⟨rfl, rfl⟩))
        go_end0
        exact ⟨rfl, HR.out, Mv.refl _ _⟩
      | true =>
        rw [show declO (tl s 0) = (upO [63, 62] (tl s 0)).map (fun _ => ()) by unfold declO declB; rw [ht, hp, hd_drop_cons hr, hw]; rfl]
        have HWH := Lib.hid (fun W => white_is b.toNat true hw.symm W)
        clear hp ht hr hw
        generalize upO [63, 62] (tl s 0) = o at *
        cases o with
        | ok a n =>
          go_enter Tryz.func39, Tryz.ntmps39
          go_wp2_with (first
            | (go_at_call 60; refine (HC.out _).mono ?_; rintro e w2 ⟨rfl, rfl⟩)
            | (go_at_call 61; refine (HWH.out _).mono ?_; rintro e w2 ⟨rfl, rfl⟩)
            | (go_at_call 62; refine (RdPost.is_ok HU.out rfl).mono ?_; rintro e w2 ⟨rfl, hr, hm⟩; have HR2 := Lib.hid hr; have HM2 := Lib.hid hm; clear hr hm))
          go_end0
          exact ⟨rfl, HR2.out, HM2.out⟩
        | bad d y =>
          go_enter Tryz.func39, Tryz.ntmps39
          go_wp2_with (first
            | (go_at_call 60; refine (HC.out _).mono ?_; rintro e w2 ⟨rfl, rfl⟩)
            | (go_at_call 61; refine (HWH.out _).mono ?_; rintro e w2 ⟨rfl, rfl⟩)
            | (go_at_call 62; refine (RdPost.is_fail (x := 0 + d) (c := y) HU.out rfl).mono ?_; rintro e w2 ⟨rfl, hm⟩; have HM2 := Lib.hid hm; clear hm))
          exact ⟨rfl, by rw [Nat.zero_add], HM2.out⟩
        | un =>
          go_enter Tryz.func39, Tryz.ntmps39
          go_wp2_with (first
            | (go_at_call 60; refine (HC.out _).mono ?_; rintro e w2 ⟨rfl, rfl⟩)
            | (go_at_call 61; refine (HWH.out _).mono ?_; rintro e w2 ⟨rfl, rfl⟩)
            | (go_at_call 62; refine (RdPost.is_fail HU.out rfl).mono ?_; rintro e w2 ⟨rfl, hm⟩; have HM2 := Lib.hid hm; clear hm))
          exact ⟨rfl, rfl, HM2.out⟩
theorem Rd.alloc {w : World} {p : Nat} {s : ByteArray} {k f : Nat} {m : Value} (h : Rd w p s k f m) (o : Obj) : Rd (w.alloc o) p s k f m := h.below ((Below.refl _ _).alloc (Nat.le_refl _) _) h.lt
theorem Mv.alloc {p : Nat} {a b : World} (h : Mv p a b) (o : Obj) : Mv p a (b.alloc o) := Chg.alloc h o
theorem hasPQ (x p : ByteArray) (b : Bool) (hb : Lib.hasPrefix x.data.toList p.data.toList = b) (w : World) (n : Nat) :
    Calls Tryz.prog 63 #[.string x, .string p] (w.drewN n) fun e w' => e = .returned (.bool b) ∧ ∃ m, w' = w.drewN m := by
  refine (Tryz.strings_HasPrefix x p (w.drewN n)).mono ?_
  rintro e w' ⟨rfl, rfl⟩
  exact ⟨by rw [hb], n, rfl⟩
theorem WaysB.alloc {w : World} {g : Nat} (h : WaysB w g) (o : Obj) : WaysB (w.alloc o) g := by
  have hl := heap_lt h
  unfold WaysB at h ⊢
  rw [Below.heap_alloc _ _ _ hl]; exact h
theorem WaysB.drewN {w : World} {g : Nat} (h : WaysB w g) (n : Nat) : WaysB (w.drewN n) g := h
/-- what next does -/
def NxPost (w : World) (B p : Nat) (s : ByteArray) (k : Nat) (ms : List Mk) (o : Out (Option Mk)) (e : Ending) (w' : World) : Prop := match o with
  | .ok x n => e = .returned (.tuple #[]) ∧ (∃ f', St w' B p s (k + n) f' (ms ++ x.toList)) ∧ Mq p B w w'
  | .bad d c => e = flt (k + d) c ∧ Mq p B w w'
  | .un => e = flt k 84 ∧ Mq p B w w'
theorem NxPost.of {w w1 w' : World} {B p k j : Nat} {s : ByteArray} {ms : List Mk} {o : Out (Option Mk)} {e : Ending} (h : DcPost w1 B p s (k + j) k ms o e w') (hm : Mq p B w w1) : NxPost w B p s k ms (o.on j) e w' := by
  cases o with
  | ok x n =>
    obtain ⟨h1, h2, h3⟩ := h
    exact ⟨h1, ⟨k, by rw [show k + (n + j) = k + j + n by omega]; exact h2⟩, hm.trans h3⟩
  | bad d c =>
    obtain ⟨h1, h3⟩ := h
    exact ⟨by rw [h1, show k + (d + j) = k + j + d by omega], hm.trans h3⟩
  | un =>
    obtain ⟨h1, h3⟩ := h
    exact ⟨h1, hm.trans h3⟩
theorem DcPost.ways {w w1 w' : World} {B p k j : Nat} {s : ByteArray} {ms : List Mk} {o : Out (Option Mk)} {e : Ending} (h : DcPost w1 B p s (k + j) k ms o e w') (hm : Mq p B w w1) :
    (e = .returned (.tuple #[]) ∧ NxPost w B p s k ms (o.on j) (.returned (.tuple #[])) w') ∨ (∃ x c, e = flt x c ∧ NxPost w B p s k ms (o.on j) (flt x c) w') := by
  have h0 := NxPost.of h hm
  cases o with
  | ok x n => obtain ⟨rfl, _⟩ := h; exact .inl ⟨rfl, h0⟩
  | bad d c => obtain ⟨rfl, _⟩ := h; exact .inr ⟨_, _, rfl, h0⟩
  | un => obtain ⟨rfl, _⟩ := h; exact .inr ⟨_, _, rfl, h0⟩
theorem Out.on_zero {α : Type} (o : Out α) : o.on 0 = o := by cases o <;> rfl
theorem wp_world {P : Program} {c : Code} {Q : Exit → Act → World → Prop} {a : Act} {W : World} (h : ∀ U, U = W → c.wp P Q a U) : c.wp P Q a W := h W rfl
theorem flt_ne {e : Ending} {x : Nat} {c : Int} (h : e = flt x c) : e = flt x c := h
set_option maxHeartbeats 4000000 in
set_option maxRecDepth 100000 in
theorem next_0 (w : World) (B p : Nat) (s : ByteArray) (k f : Nat) (ms : List Mk) (h : St w B p s k f ms) (hG : Glob w) (hp : 9 ≤ p) (hB : B ≤ w.heap.size) (hk : k < s.size) (hs : s.size ≤ 65536) (hn : ms.length ≤ 65536) (g : Nat) (hW : WaysB w g) (q0 : Lib.hasPrefix (tl s k) [60, 33, 45, 45] = true) (hle : k + 4 ≤ s.size) :
    Calls Tryz.prog 40 #[.pointer (some ⟨p, 0, none⟩), .slice (some ⟨g, 0, none⟩) 5 5] w (NxPost w B p s k ms (((upO [45, 45, 62] (tl s (k + 4))).map fun _ => none).on 4)) := by
  obtain ⟨mv, zs, hz, hr0, hm0⟩ := h
  have HWB := Lib.hid hW
  have HP0 := Lib.hid (fun W => hasPQ (s.extract k s.size) ⟨#[60, 33, 45, 45]⟩ true (by rw [ext_tl s k (Nat.le_of_lt hk)]; exact q0) W)
  have hki : (k : Int) ≤ (s.size : Int) := by omega
  have HR := Lib.hid hr0
  have HM := Lib.hid hm0
  have HC := Lib.hid (fun W (hSt : St W B p s (k + 4) k ms) (hgW : Glob W) (hb : B ≤ W.heap.size) => comment_any W B p s (k + 4) k ms hSt hgW hp hb hle hs hn)
  have HX : Hid (9 ≤ p ∧ B ≤ w.heap.size ∧ s.size ≤ 65536 ∧ k + 4 ≤ s.size) := Lib.hid ⟨hp, hB, hs, hle⟩
  have HG := Lib.hid hG
  have HZ := Lib.hid hz
  clear hr0 hm0 hz hG hp hB hs hn hle hW q0
  go_enter Tryz.func40, Tryz.ntmps40
  go_wp2
  refine wp_loop_rounds 6 ?_
  rw [rounds_succ]
  refine wp_world ?_
  intro U0 hU
  have hRU : Rd U0 p s k f mv := by rw [hU]; exact HR.out
  have hMU : Mv p w U0 := by rw [hU]; exact Mv.refl p w
  have hWU : WaysB U0 g := by rw [hU]; exact HWB.out
  have hlt := hRU.lt
  have hglt := heap_lt hWU
  have c0 := hRU.c0
  have c1 := hRU.c1
  have c2 := hRU.c2
  have z1 := hRU.z 1
  have z2 := hRU.z 2
  have v0 : U0.cell? ⟨g, 0, none⟩ = some (.string ⟨#[60, 33, 45, 45]⟩) := by rw [Lib.cell_of_heap hWU]; rfl
  have v1 : U0.cell? ⟨g, 1, none⟩ = some (.func (Fn.func 55) #[] #[]) := by rw [Lib.cell_of_heap hWU]; rfl
  have HRU0 := Lib.hid hRU
  have HMU0 := Lib.hid hMU
  have HWU0 := Lib.hid hWU
  clear hU hRU hMU hWU
  go_wp2_with fail
  go_quiet ((go_at_call 63; exact (HP0.out _ _)))
  go_wp2_with fail
  refine wp_world ?_
  intro U hU
  have hq9 := HRU0.out.lt
  have hRU : Rd U p s k k mv := by rw [hU]; exact ((HRU0.out.alloc _).drewN _).at2 rfl
  have hMU : Mv p w U := by rw [hU]; exact ((HMU0.out.alloc _).drewN _).set 2 _
  have hWU : U.heap[U0.heap.size]? = some (.cells #[.string ⟨#[60, 33, 45, 45]⟩, .func (Fn.func 55) #[] #[]] 92 (0, 0)) := by
    rw [hU, Below.heap_setCell _ _ _ _ (by simp; omega)]
    exact heap_at _ _ _ (by simp)
  have t0 : U.cell? ⟨U0.heap.size, 0, none⟩ = some (.string ⟨#[60, 33, 45, 45]⟩) := by rw [Lib.cell_of_heap hWU]; rfl
  have t1 : U.cell? ⟨U0.heap.size, 1, none⟩ = some (.func (Fn.func 55) #[] #[]) := by rw [Lib.cell_of_heap hWU]; rfl
  have r1 := hRU.c1
  have rz := hRU.z 1
  have HRU := Lib.hid hRU
  have HMU := Lib.hid hMU
  clear hU hRU hMU hWU
  go_still_tail 10, (by kernel_rfl)
  go_wp2_with (go_at_call 55; refine (HC.out _ ⟨mv, zs, HZ.out, (HRU.out.at1 (by have := HX.out; exact Go.IntWalk.wrap64_in _ (by omega))).drew, HM.out.mv (HMU.out.set 1 _).drew HR.out⟩ (HG.out.mv (HMU.out.set 1 _).drew HX.out.1) (Nat.le_trans HX.out.2.1 (HMU.out.set 1 _).drew.size)).mono ?_; rintro e w9 hpost; rcases hpost.ways (HMU.out.set 1 _).drew.toQ with ⟨rfl, hN⟩ | ⟨x, c, rfl, hN⟩ <;> have HN := Lib.hid hN <;> clear hN hpost)
  · refine bodyPost_ret (results_none rfl _ _ _) rfl ?_
    exact HN.out
  · exact ⟨rfl, HN.out⟩
set_option maxHeartbeats 4000000 in
set_option maxRecDepth 100000 in
theorem next_1 (w : World) (B p : Nat) (s : ByteArray) (k f : Nat) (ms : List Mk) (h : St w B p s k f ms) (hG : Glob w) (hp : 9 ≤ p) (hB : B ≤ w.heap.size) (hk : k < s.size) (hs : s.size ≤ 65536) (hn : ms.length ≤ 65536) (g : Nat) (hW : WaysB w g) (q0 : Lib.hasPrefix (tl s k) [60, 33, 45, 45] = false) (q1 : Lib.hasPrefix (tl s k) [60, 33, 91, 67, 68, 65, 84, 65, 91] = true) (hle : k + 9 ≤ s.size) :
    Calls Tryz.prog 40 #[.pointer (some ⟨p, 0, none⟩), .slice (some ⟨g, 0, none⟩) 5 5] w (NxPost w B p s k ms ((cdataO k (tl s (k + 9))).on 9)) := by
  obtain ⟨mv, zs, hz, hr0, hm0⟩ := h
  have HWB := Lib.hid hW
  have HP0 := Lib.hid (fun W => hasPQ (s.extract k s.size) ⟨#[60, 33, 45, 45]⟩ false (by rw [ext_tl s k (Nat.le_of_lt hk)]; exact q0) W)
  have HP1 := Lib.hid (fun W => hasPQ (s.extract k s.size) ⟨#[60, 33, 91, 67, 68, 65, 84, 65, 91]⟩ true (by rw [ext_tl s k (Nat.le_of_lt hk)]; exact q1) W)
  have hki : (k : Int) ≤ (s.size : Int) := by omega
  have HR := Lib.hid hr0
  have HM := Lib.hid hm0
  have HC := Lib.hid (fun W (hSt : St W B p s (k + 9) k ms) (hgW : Glob W) (hb : B ≤ W.heap.size) => cdata_any W B p s (k + 9) k ms hSt hgW hp hb hle hs hn)
  have HX : Hid (9 ≤ p ∧ B ≤ w.heap.size ∧ s.size ≤ 65536 ∧ k + 9 ≤ s.size) := Lib.hid ⟨hp, hB, hs, hle⟩
  have HG := Lib.hid hG
  have HZ := Lib.hid hz
  clear hr0 hm0 hz hG hp hB hs hn hle hW q0 q1
  go_enter Tryz.func40, Tryz.ntmps40
  go_wp2
  refine wp_loop_rounds 6 ?_
  rw [rounds_succ]
  refine wp_world ?_
  intro U0 hU
  have hRU : Rd U0 p s k f mv := by rw [hU]; exact HR.out
  have hMU : Mv p w U0 := by rw [hU]; exact Mv.refl p w
  have hWU : WaysB U0 g := by rw [hU]; exact HWB.out
  have hlt := hRU.lt
  have hglt := heap_lt hWU
  have c0 := hRU.c0
  have c1 := hRU.c1
  have c2 := hRU.c2
  have z1 := hRU.z 1
  have z2 := hRU.z 2
  have v0 : U0.cell? ⟨g, 0, none⟩ = some (.string ⟨#[60, 33, 45, 45]⟩) := by rw [Lib.cell_of_heap hWU]; rfl
  have v1 : U0.cell? ⟨g, 1, none⟩ = some (.func (Fn.func 55) #[] #[]) := by rw [Lib.cell_of_heap hWU]; rfl
  have HRU0 := Lib.hid hRU
  have HMU0 := Lib.hid hMU
  have HWU0 := Lib.hid hWU
  clear hU hRU hMU hWU
  go_wp2_with fail
  go_quiet ((go_at_call 63; exact (HP0.out _ _)))
  go_wp2_with fail
  clear hlt hglt c0 c1 c2 z1 z2 v0 v1
  rw [rounds_succ]
  refine wp_world ?_
  intro U1 hU
  have hRU : Rd U1 p s k f mv := by rw [hU]; exact ((HRU0.out.alloc _).drewN _)
  have hMU : Mv p w U1 := by rw [hU]; exact ((HMU0.out.alloc _).drewN _)
  have hWU : WaysB U1 g := by rw [hU]; exact ((HWU0.out.alloc _).drewN _)
  have hlt := hRU.lt
  have hglt := heap_lt hWU
  have c0 := hRU.c0
  have c1 := hRU.c1
  have c2 := hRU.c2
  have z1 := hRU.z 1
  have z2 := hRU.z 2
  have v0 : U1.cell? ⟨g, 2, none⟩ = some (.string ⟨#[60, 33, 91, 67, 68, 65, 84, 65, 91]⟩) := by rw [Lib.cell_of_heap hWU]; rfl
  have v1 : U1.cell? ⟨g, 3, none⟩ = some (.func (Fn.func 56) #[] #[]) := by rw [Lib.cell_of_heap hWU]; rfl
  have HRU1 := Lib.hid hRU
  have HMU1 := Lib.hid hMU
  have HWU1 := Lib.hid hWU
  clear hU hRU hMU hWU
  go_wp2_with fail
  go_quiet ((go_at_call 63; exact (HP1.out _ _)))
  go_wp2_with fail
  refine wp_world ?_
  intro U hU
  have hq9 := HRU1.out.lt
  have hRU : Rd U p s k k mv := by rw [hU]; exact ((HRU1.out.alloc _).drewN _).at2 rfl
  have hMU : Mv p w U := by rw [hU]; exact ((HMU1.out.alloc _).drewN _).set 2 _
  have hWU : U.heap[U1.heap.size]? = some (.cells #[.string ⟨#[60, 33, 91, 67, 68, 65, 84, 65, 91]⟩, .func (Fn.func 56) #[] #[]] 92 (0, 0)) := by
    rw [hU, Below.heap_setCell _ _ _ _ (by simp; omega)]
    exact heap_at _ _ _ (by simp)
  have t0 : U.cell? ⟨U1.heap.size, 0, none⟩ = some (.string ⟨#[60, 33, 91, 67, 68, 65, 84, 65, 91]⟩) := by rw [Lib.cell_of_heap hWU]; rfl
  have t1 : U.cell? ⟨U1.heap.size, 1, none⟩ = some (.func (Fn.func 56) #[] #[]) := by rw [Lib.cell_of_heap hWU]; rfl
  have r1 := hRU.c1
  have rz := hRU.z 1
  have HRU := Lib.hid hRU
  have HMU := Lib.hid hMU
  clear hU hRU hMU hWU
  go_still_tail 10, (by kernel_rfl)
  go_wp2_with (go_at_call 56; refine (HC.out _ ⟨mv, zs, HZ.out, (HRU.out.at1 (by have := HX.out; exact Go.IntWalk.wrap64_in _ (by omega))).drew, HM.out.mv (HMU.out.set 1 _).drew HR.out⟩ (HG.out.mv (HMU.out.set 1 _).drew HX.out.1) (Nat.le_trans HX.out.2.1 (HMU.out.set 1 _).drew.size)).mono ?_; rintro e w9 hpost; rcases hpost.ways (HMU.out.set 1 _).drew.toQ with ⟨rfl, hN⟩ | ⟨x, c, rfl, hN⟩ <;> have HN := Lib.hid hN <;> clear hN hpost)
  · refine bodyPost_ret (results_none rfl _ _ _) rfl ?_
    exact HN.out
  · exact ⟨rfl, HN.out⟩
set_option maxHeartbeats 4000000 in
set_option maxRecDepth 100000 in
theorem next_2 (w : World) (B p : Nat) (s : ByteArray) (k f : Nat) (ms : List Mk) (h : St w B p s k f ms) (hG : Glob w) (hp : 9 ≤ p) (hB : B ≤ w.heap.size) (hk : k < s.size) (hs : s.size ≤ 65536) (hn : ms.length ≤ 65536) (g : Nat) (hW : WaysB w g) (q0 : Lib.hasPrefix (tl s k) [60, 33, 45, 45] = false) (q1 : Lib.hasPrefix (tl s k) [60, 33, 91, 67, 68, 65, 84, 65, 91] = false) (q2 : Lib.hasPrefix (tl s k) [60, 47] = true) (hle : k + 2 ≤ s.size) :
    Calls Tryz.prog 40 #[.pointer (some ⟨p, 0, none⟩), .slice (some ⟨g, 0, none⟩) 5 5] w (NxPost w B p s k ms (((endO k (tl s (k + 2))).map some).on 2)) := by
  obtain ⟨mv, zs, hz, hr0, hm0⟩ := h
  have HWB := Lib.hid hW
  have HP0 := Lib.hid (fun W => hasPQ (s.extract k s.size) ⟨#[60, 33, 45, 45]⟩ false (by rw [ext_tl s k (Nat.le_of_lt hk)]; exact q0) W)
  have HP1 := Lib.hid (fun W => hasPQ (s.extract k s.size) ⟨#[60, 33, 91, 67, 68, 65, 84, 65, 91]⟩ false (by rw [ext_tl s k (Nat.le_of_lt hk)]; exact q1) W)
  have HP2 := Lib.hid (fun W => hasPQ (s.extract k s.size) ⟨#[60, 47]⟩ true (by rw [ext_tl s k (Nat.le_of_lt hk)]; exact q2) W)
  have hki : (k : Int) ≤ (s.size : Int) := by omega
  have HR := Lib.hid hr0
  have HM := Lib.hid hm0
  have HC := Lib.hid (fun W (hSt : St W B p s (k + 2) k ms) (hgW : Glob W) (hb : B ≤ W.heap.size) => endTag_any W B p s (k + 2) k ms hSt hgW hp hb hle hs hn)
  have HX : Hid (9 ≤ p ∧ B ≤ w.heap.size ∧ s.size ≤ 65536 ∧ k + 2 ≤ s.size) := Lib.hid ⟨hp, hB, hs, hle⟩
  have HG := Lib.hid hG
  have HZ := Lib.hid hz
  clear hr0 hm0 hz hG hp hB hs hn hle hW q0 q1 q2
  go_enter Tryz.func40, Tryz.ntmps40
  go_wp2
  refine wp_loop_rounds 6 ?_
  rw [rounds_succ]
  refine wp_world ?_
  intro U0 hU
  have hRU : Rd U0 p s k f mv := by rw [hU]; exact HR.out
  have hMU : Mv p w U0 := by rw [hU]; exact Mv.refl p w
  have hWU : WaysB U0 g := by rw [hU]; exact HWB.out
  have hlt := hRU.lt
  have hglt := heap_lt hWU
  have c0 := hRU.c0
  have c1 := hRU.c1
  have c2 := hRU.c2
  have z1 := hRU.z 1
  have z2 := hRU.z 2
  have v0 : U0.cell? ⟨g, 0, none⟩ = some (.string ⟨#[60, 33, 45, 45]⟩) := by rw [Lib.cell_of_heap hWU]; rfl
  have v1 : U0.cell? ⟨g, 1, none⟩ = some (.func (Fn.func 55) #[] #[]) := by rw [Lib.cell_of_heap hWU]; rfl
  have HRU0 := Lib.hid hRU
  have HMU0 := Lib.hid hMU
  have HWU0 := Lib.hid hWU
  clear hU hRU hMU hWU
  go_wp2_with fail
  go_quiet ((go_at_call 63; exact (HP0.out _ _)))
  go_wp2_with fail
  clear hlt hglt c0 c1 c2 z1 z2 v0 v1
  rw [rounds_succ]
  refine wp_world ?_
  intro U1 hU
  have hRU : Rd U1 p s k f mv := by rw [hU]; exact ((HRU0.out.alloc _).drewN _)
  have hMU : Mv p w U1 := by rw [hU]; exact ((HMU0.out.alloc _).drewN _)
  have hWU : WaysB U1 g := by rw [hU]; exact ((HWU0.out.alloc _).drewN _)
  have hlt := hRU.lt
  have hglt := heap_lt hWU
  have c0 := hRU.c0
  have c1 := hRU.c1
  have c2 := hRU.c2
  have z1 := hRU.z 1
  have z2 := hRU.z 2
  have v0 : U1.cell? ⟨g, 2, none⟩ = some (.string ⟨#[60, 33, 91, 67, 68, 65, 84, 65, 91]⟩) := by rw [Lib.cell_of_heap hWU]; rfl
  have v1 : U1.cell? ⟨g, 3, none⟩ = some (.func (Fn.func 56) #[] #[]) := by rw [Lib.cell_of_heap hWU]; rfl
  have HRU1 := Lib.hid hRU
  have HMU1 := Lib.hid hMU
  have HWU1 := Lib.hid hWU
  clear hU hRU hMU hWU
  go_wp2_with fail
  go_quiet ((go_at_call 63; exact (HP1.out _ _)))
  go_wp2_with fail
  clear hlt hglt c0 c1 c2 z1 z2 v0 v1
  rw [rounds_succ]
  refine wp_world ?_
  intro U2 hU
  have hRU : Rd U2 p s k f mv := by rw [hU]; exact ((HRU1.out.alloc _).drewN _)
  have hMU : Mv p w U2 := by rw [hU]; exact ((HMU1.out.alloc _).drewN _)
  have hWU : WaysB U2 g := by rw [hU]; exact ((HWU1.out.alloc _).drewN _)
  have hlt := hRU.lt
  have hglt := heap_lt hWU
  have c0 := hRU.c0
  have c1 := hRU.c1
  have c2 := hRU.c2
  have z1 := hRU.z 1
  have z2 := hRU.z 2
  have v0 : U2.cell? ⟨g, 4, none⟩ = some (.string ⟨#[60, 47]⟩) := by rw [Lib.cell_of_heap hWU]; rfl
  have v1 : U2.cell? ⟨g, 5, none⟩ = some (.func (Fn.func 57) #[] #[]) := by rw [Lib.cell_of_heap hWU]; rfl
  have HRU2 := Lib.hid hRU
  have HMU2 := Lib.hid hMU
  have HWU2 := Lib.hid hWU
  clear hU hRU hMU hWU
  go_wp2_with fail
  go_quiet ((go_at_call 63; exact (HP2.out _ _)))
  go_wp2_with fail
  refine wp_world ?_
  intro U hU
  have hq9 := HRU2.out.lt
  have hRU : Rd U p s k k mv := by rw [hU]; exact ((HRU2.out.alloc _).drewN _).at2 rfl
  have hMU : Mv p w U := by rw [hU]; exact ((HMU2.out.alloc _).drewN _).set 2 _
  have hWU : U.heap[U2.heap.size]? = some (.cells #[.string ⟨#[60, 47]⟩, .func (Fn.func 57) #[] #[]] 92 (0, 0)) := by
    rw [hU, Below.heap_setCell _ _ _ _ (by simp; omega)]
    exact heap_at _ _ _ (by simp)
  have t0 : U.cell? ⟨U2.heap.size, 0, none⟩ = some (.string ⟨#[60, 47]⟩) := by rw [Lib.cell_of_heap hWU]; rfl
  have t1 : U.cell? ⟨U2.heap.size, 1, none⟩ = some (.func (Fn.func 57) #[] #[]) := by rw [Lib.cell_of_heap hWU]; rfl
  have r1 := hRU.c1
  have rz := hRU.z 1
  have HRU := Lib.hid hRU
  have HMU := Lib.hid hMU
  clear hU hRU hMU hWU
  go_still_tail 10, (by kernel_rfl)
  go_wp2_with (go_at_call 57; refine (HC.out _ ⟨mv, zs, HZ.out, (HRU.out.at1 (by have := HX.out; exact Go.IntWalk.wrap64_in _ (by omega))).drew, HM.out.mv (HMU.out.set 1 _).drew HR.out⟩ (HG.out.mv (HMU.out.set 1 _).drew HX.out.1) (Nat.le_trans HX.out.2.1 (HMU.out.set 1 _).drew.size)).mono ?_; rintro e w9 hpost; rcases hpost.ways (HMU.out.set 1 _).drew.toQ with ⟨rfl, hN⟩ | ⟨x, c, rfl, hN⟩ <;> have HN := Lib.hid hN <;> clear hN hpost)
  · refine bodyPost_ret (results_none rfl _ _ _) rfl ?_
    exact HN.out
  · exact ⟨rfl, HN.out⟩
set_option maxHeartbeats 4000000 in
set_option maxRecDepth 100000 in
theorem next_3 (w : World) (B p : Nat) (s : ByteArray) (k f : Nat) (ms : List Mk) (h : St w B p s k f ms) (hG : Glob w) (hp : 9 ≤ p) (hB : B ≤ w.heap.size) (hk : k < s.size) (hs : s.size ≤ 65536) (hn : ms.length ≤ 65536) (g : Nat) (hW : WaysB w g) (q0 : Lib.hasPrefix (tl s k) [60, 33, 45, 45] = false) (q1 : Lib.hasPrefix (tl s k) [60, 33, 91, 67, 68, 65, 84, 65, 91] = false) (q2 : Lib.hasPrefix (tl s k) [60, 47] = false) (q3 : Lib.hasPrefix (tl s k) [60] = true) (hle : k + 1 ≤ s.size) :
    Calls Tryz.prog 40 #[.pointer (some ⟨p, 0, none⟩), .slice (some ⟨g, 0, none⟩) 5 5] w (NxPost w B p s k ms (((startO k (k + 1) (tl s (k + 1))).map some).on 1)) := by
  obtain ⟨mv, zs, hz, hr0, hm0⟩ := h
  have HWB := Lib.hid hW
  have HP0 := Lib.hid (fun W => hasPQ (s.extract k s.size) ⟨#[60, 33, 45, 45]⟩ false (by rw [ext_tl s k (Nat.le_of_lt hk)]; exact q0) W)
  have HP1 := Lib.hid (fun W => hasPQ (s.extract k s.size) ⟨#[60, 33, 91, 67, 68, 65, 84, 65, 91]⟩ false (by rw [ext_tl s k (Nat.le_of_lt hk)]; exact q1) W)
  have HP2 := Lib.hid (fun W => hasPQ (s.extract k s.size) ⟨#[60, 47]⟩ false (by rw [ext_tl s k (Nat.le_of_lt hk)]; exact q2) W)
  have HP3 := Lib.hid (fun W => hasPQ (s.extract k s.size) ⟨#[60]⟩ true (by rw [ext_tl s k (Nat.le_of_lt hk)]; exact q3) W)
  have hki : (k : Int) ≤ (s.size : Int) := by omega
  have HR := Lib.hid hr0
  have HM := Lib.hid hm0
  have HC := Lib.hid (fun W (hSt : St W B p s (k + 1) k ms) (hgW : Glob W) (hb : B ≤ W.heap.size) => startTag_any W B p s (k + 1) k ms hSt hgW hp hb hle hs hn)
  have HX : Hid (9 ≤ p ∧ B ≤ w.heap.size ∧ s.size ≤ 65536 ∧ k + 1 ≤ s.size) := Lib.hid ⟨hp, hB, hs, hle⟩
  have HG := Lib.hid hG
  have HZ := Lib.hid hz
  clear hr0 hm0 hz hG hp hB hs hn hle hW q0 q1 q2 q3
  go_enter Tryz.func40, Tryz.ntmps40
  go_wp2
  refine wp_loop_rounds 6 ?_
  rw [rounds_succ]
  refine wp_world ?_
  intro U0 hU
  have hRU : Rd U0 p s k f mv := by rw [hU]; exact HR.out
  have hMU : Mv p w U0 := by rw [hU]; exact Mv.refl p w
  have hWU : WaysB U0 g := by rw [hU]; exact HWB.out
  have hlt := hRU.lt
  have hglt := heap_lt hWU
  have c0 := hRU.c0
  have c1 := hRU.c1
  have c2 := hRU.c2
  have z1 := hRU.z 1
  have z2 := hRU.z 2
  have v0 : U0.cell? ⟨g, 0, none⟩ = some (.string ⟨#[60, 33, 45, 45]⟩) := by rw [Lib.cell_of_heap hWU]; rfl
  have v1 : U0.cell? ⟨g, 1, none⟩ = some (.func (Fn.func 55) #[] #[]) := by rw [Lib.cell_of_heap hWU]; rfl
  have HRU0 := Lib.hid hRU
  have HMU0 := Lib.hid hMU
  have HWU0 := Lib.hid hWU
  clear hU hRU hMU hWU
  go_wp2_with fail
  go_quiet ((go_at_call 63; exact (HP0.out _ _)))
  go_wp2_with fail
  clear hlt hglt c0 c1 c2 z1 z2 v0 v1
  rw [rounds_succ]
  refine wp_world ?_
  intro U1 hU
  have hRU : Rd U1 p s k f mv := by rw [hU]; exact ((HRU0.out.alloc _).drewN _)
  have hMU : Mv p w U1 := by rw [hU]; exact ((HMU0.out.alloc _).drewN _)
  have hWU : WaysB U1 g := by rw [hU]; exact ((HWU0.out.alloc _).drewN _)
  have hlt := hRU.lt
  have hglt := heap_lt hWU
  have c0 := hRU.c0
  have c1 := hRU.c1
  have c2 := hRU.c2
  have z1 := hRU.z 1
  have z2 := hRU.z 2
  have v0 : U1.cell? ⟨g, 2, none⟩ = some (.string ⟨#[60, 33, 91, 67, 68, 65, 84, 65, 91]⟩) := by rw [Lib.cell_of_heap hWU]; rfl
  have v1 : U1.cell? ⟨g, 3, none⟩ = some (.func (Fn.func 56) #[] #[]) := by rw [Lib.cell_of_heap hWU]; rfl
  have HRU1 := Lib.hid hRU
  have HMU1 := Lib.hid hMU
  have HWU1 := Lib.hid hWU
  clear hU hRU hMU hWU
  go_wp2_with fail
  go_quiet ((go_at_call 63; exact (HP1.out _ _)))
  go_wp2_with fail
  clear hlt hglt c0 c1 c2 z1 z2 v0 v1
  rw [rounds_succ]
  refine wp_world ?_
  intro U2 hU
  have hRU : Rd U2 p s k f mv := by rw [hU]; exact ((HRU1.out.alloc _).drewN _)
  have hMU : Mv p w U2 := by rw [hU]; exact ((HMU1.out.alloc _).drewN _)
  have hWU : WaysB U2 g := by rw [hU]; exact ((HWU1.out.alloc _).drewN _)
  have hlt := hRU.lt
  have hglt := heap_lt hWU
  have c0 := hRU.c0
  have c1 := hRU.c1
  have c2 := hRU.c2
  have z1 := hRU.z 1
  have z2 := hRU.z 2
  have v0 : U2.cell? ⟨g, 4, none⟩ = some (.string ⟨#[60, 47]⟩) := by rw [Lib.cell_of_heap hWU]; rfl
  have v1 : U2.cell? ⟨g, 5, none⟩ = some (.func (Fn.func 57) #[] #[]) := by rw [Lib.cell_of_heap hWU]; rfl
  have HRU2 := Lib.hid hRU
  have HMU2 := Lib.hid hMU
  have HWU2 := Lib.hid hWU
  clear hU hRU hMU hWU
  go_wp2_with fail
  go_quiet ((go_at_call 63; exact (HP2.out _ _)))
  go_wp2_with fail
  clear hlt hglt c0 c1 c2 z1 z2 v0 v1
  rw [rounds_succ]
  refine wp_world ?_
  intro U3 hU
  have hRU : Rd U3 p s k f mv := by rw [hU]; exact ((HRU2.out.alloc _).drewN _)
  have hMU : Mv p w U3 := by rw [hU]; exact ((HMU2.out.alloc _).drewN _)
  have hWU : WaysB U3 g := by rw [hU]; exact ((HWU2.out.alloc _).drewN _)
  have hlt := hRU.lt
  have hglt := heap_lt hWU
  have c0 := hRU.c0
  have c1 := hRU.c1
  have c2 := hRU.c2
  have z1 := hRU.z 1
  have z2 := hRU.z 2
  have v0 : U3.cell? ⟨g, 6, none⟩ = some (.string ⟨#[60]⟩) := by rw [Lib.cell_of_heap hWU]; rfl
  have v1 : U3.cell? ⟨g, 7, none⟩ = some (.func (Fn.func 58) #[] #[]) := by rw [Lib.cell_of_heap hWU]; rfl
  have HRU3 := Lib.hid hRU
  have HMU3 := Lib.hid hMU
  have HWU3 := Lib.hid hWU
  clear hU hRU hMU hWU
  go_wp2_with fail
  go_quiet ((go_at_call 63; exact (HP3.out _ _)))
  go_wp2_with fail
  refine wp_world ?_
  intro U hU
  have hq9 := HRU3.out.lt
  have hRU : Rd U p s k k mv := by rw [hU]; exact ((HRU3.out.alloc _).drewN _).at2 rfl
  have hMU : Mv p w U := by rw [hU]; exact ((HMU3.out.alloc _).drewN _).set 2 _
  have hWU : U.heap[U3.heap.size]? = some (.cells #[.string ⟨#[60]⟩, .func (Fn.func 58) #[] #[]] 92 (0, 0)) := by
    rw [hU, Below.heap_setCell _ _ _ _ (by simp; omega)]
    exact heap_at _ _ _ (by simp)
  have t0 : U.cell? ⟨U3.heap.size, 0, none⟩ = some (.string ⟨#[60]⟩) := by rw [Lib.cell_of_heap hWU]; rfl
  have t1 : U.cell? ⟨U3.heap.size, 1, none⟩ = some (.func (Fn.func 58) #[] #[]) := by rw [Lib.cell_of_heap hWU]; rfl
  have r1 := hRU.c1
  have rz := hRU.z 1
  have HRU := Lib.hid hRU
  have HMU := Lib.hid hMU
  clear hU hRU hMU hWU
  go_still_tail 10, (by kernel_rfl)
  go_wp2_with (go_at_call 58; refine (HC.out _ ⟨mv, zs, HZ.out, (HRU.out.at1 (by have := HX.out; exact Go.IntWalk.wrap64_in _ (by omega))).drew, HM.out.mv (HMU.out.set 1 _).drew HR.out⟩ (HG.out.mv (HMU.out.set 1 _).drew HX.out.1) (Nat.le_trans HX.out.2.1 (HMU.out.set 1 _).drew.size)).mono ?_; rintro e w9 hpost; rcases hpost.ways (HMU.out.set 1 _).drew.toQ with ⟨rfl, hN⟩ | ⟨x, c, rfl, hN⟩ <;> have HN := Lib.hid hN <;> clear hN hpost)
  · refine bodyPost_ret (results_none rfl _ _ _) rfl ?_
    exact HN.out
  · exact ⟨rfl, HN.out⟩
set_option maxHeartbeats 4000000 in
set_option maxRecDepth 100000 in
theorem next_4 (w : World) (B p : Nat) (s : ByteArray) (k f : Nat) (ms : List Mk) (h : St w B p s k f ms) (hG : Glob w) (hp : 9 ≤ p) (hB : B ≤ w.heap.size) (hk : k < s.size) (hs : s.size ≤ 65536) (hn : ms.length ≤ 65536) (g : Nat) (hW : WaysB w g) (q0 : Lib.hasPrefix (tl s k) [60, 33, 45, 45] = false) (q1 : Lib.hasPrefix (tl s k) [60, 33, 91, 67, 68, 65, 84, 65, 91] = false) (q2 : Lib.hasPrefix (tl s k) [60, 47] = false) (q3 : Lib.hasPrefix (tl s k) [60] = false) (q4 : Lib.hasPrefix (tl s k) [] = true) (hle : k + 0 ≤ s.size) :
    Calls Tryz.prog 40 #[.pointer (some ⟨p, 0, none⟩), .slice (some ⟨g, 0, none⟩) 5 5] w (NxPost w B p s k ms (((textO (tl s (k + 0))).map fun t => some ⟨3, [], [], false, t, k⟩).on 0)) := by
  obtain ⟨mv, zs, hz, hr0, hm0⟩ := h
  have HWB := Lib.hid hW
  have HP0 := Lib.hid (fun W => hasPQ (s.extract k s.size) ⟨#[60, 33, 45, 45]⟩ false (by rw [ext_tl s k (Nat.le_of_lt hk)]; exact q0) W)
  have HP1 := Lib.hid (fun W => hasPQ (s.extract k s.size) ⟨#[60, 33, 91, 67, 68, 65, 84, 65, 91]⟩ false (by rw [ext_tl s k (Nat.le_of_lt hk)]; exact q1) W)
  have HP2 := Lib.hid (fun W => hasPQ (s.extract k s.size) ⟨#[60, 47]⟩ false (by rw [ext_tl s k (Nat.le_of_lt hk)]; exact q2) W)
  have HP3 := Lib.hid (fun W => hasPQ (s.extract k s.size) ⟨#[60]⟩ false (by rw [ext_tl s k (Nat.le_of_lt hk)]; exact q3) W)
  have HP4 := Lib.hid (fun W => hasPQ (s.extract k s.size) ⟨#[]⟩ true (by rw [ext_tl s k (Nat.le_of_lt hk)]; exact q4) W)
  have hki : (k : Int) ≤ (s.size : Int) := by omega
  have HR := Lib.hid hr0
  have HM := Lib.hid hm0
  have HC := Lib.hid (fun W (hSt : St W B p s (k + 0) k ms) (hgW : Glob W) (hb : B ≤ W.heap.size) => text_any W B p s (k + 0) k ms hSt hgW hp hb hle hs hn)
  have HX : Hid (9 ≤ p ∧ B ≤ w.heap.size ∧ s.size ≤ 65536 ∧ k + 0 ≤ s.size) := Lib.hid ⟨hp, hB, hs, hle⟩
  have HG := Lib.hid hG
  have HZ := Lib.hid hz
  clear hr0 hm0 hz hG hp hB hs hn hle hW q0 q1 q2 q3 q4
  go_enter Tryz.func40, Tryz.ntmps40
  go_wp2
  refine wp_loop_rounds 6 ?_
  rw [rounds_succ]
  refine wp_world ?_
  intro U0 hU
  have hRU : Rd U0 p s k f mv := by rw [hU]; exact HR.out
  have hMU : Mv p w U0 := by rw [hU]; exact Mv.refl p w
  have hWU : WaysB U0 g := by rw [hU]; exact HWB.out
  have hlt := hRU.lt
  have hglt := heap_lt hWU
  have c0 := hRU.c0
  have c1 := hRU.c1
  have c2 := hRU.c2
  have z1 := hRU.z 1
  have z2 := hRU.z 2
  have v0 : U0.cell? ⟨g, 0, none⟩ = some (.string ⟨#[60, 33, 45, 45]⟩) := by rw [Lib.cell_of_heap hWU]; rfl
  have v1 : U0.cell? ⟨g, 1, none⟩ = some (.func (Fn.func 55) #[] #[]) := by rw [Lib.cell_of_heap hWU]; rfl
  have HRU0 := Lib.hid hRU
  have HMU0 := Lib.hid hMU
  have HWU0 := Lib.hid hWU
  clear hU hRU hMU hWU
  go_wp2_with fail
  go_quiet ((go_at_call 63; exact (HP0.out _ _)))
  go_wp2_with fail
  clear hlt hglt c0 c1 c2 z1 z2 v0 v1
  rw [rounds_succ]
  refine wp_world ?_
  intro U1 hU
  have hRU : Rd U1 p s k f mv := by rw [hU]; exact ((HRU0.out.alloc _).drewN _)
  have hMU : Mv p w U1 := by rw [hU]; exact ((HMU0.out.alloc _).drewN _)
  have hWU : WaysB U1 g := by rw [hU]; exact ((HWU0.out.alloc _).drewN _)
  have hlt := hRU.lt
  have hglt := heap_lt hWU
  have c0 := hRU.c0
  have c1 := hRU.c1
  have c2 := hRU.c2
  have z1 := hRU.z 1
  have z2 := hRU.z 2
  have v0 : U1.cell? ⟨g, 2, none⟩ = some (.string ⟨#[60, 33, 91, 67, 68, 65, 84, 65, 91]⟩) := by rw [Lib.cell_of_heap hWU]; rfl
  have v1 : U1.cell? ⟨g, 3, none⟩ = some (.func (Fn.func 56) #[] #[]) := by rw [Lib.cell_of_heap hWU]; rfl
  have HRU1 := Lib.hid hRU
  have HMU1 := Lib.hid hMU
  have HWU1 := Lib.hid hWU
  clear hU hRU hMU hWU
  go_wp2_with fail
  go_quiet ((go_at_call 63; exact (HP1.out _ _)))
  go_wp2_with fail
  clear hlt hglt c0 c1 c2 z1 z2 v0 v1
  rw [rounds_succ]
  refine wp_world ?_
  intro U2 hU
  have hRU : Rd U2 p s k f mv := by rw [hU]; exact ((HRU1.out.alloc _).drewN _)
  have hMU : Mv p w U2 := by rw [hU]; exact ((HMU1.out.alloc _).drewN _)
  have hWU : WaysB U2 g := by rw [hU]; exact ((HWU1.out.alloc _).drewN _)
  have hlt := hRU.lt
  have hglt := heap_lt hWU
  have c0 := hRU.c0
  have c1 := hRU.c1
  have c2 := hRU.c2
  have z1 := hRU.z 1
  have z2 := hRU.z 2
  have v0 : U2.cell? ⟨g, 4, none⟩ = some (.string ⟨#[60, 47]⟩) := by rw [Lib.cell_of_heap hWU]; rfl
  have v1 : U2.cell? ⟨g, 5, none⟩ = some (.func (Fn.func 57) #[] #[]) := by rw [Lib.cell_of_heap hWU]; rfl
  have HRU2 := Lib.hid hRU
  have HMU2 := Lib.hid hMU
  have HWU2 := Lib.hid hWU
  clear hU hRU hMU hWU
  go_wp2_with fail
  go_quiet ((go_at_call 63; exact (HP2.out _ _)))
  go_wp2_with fail
  clear hlt hglt c0 c1 c2 z1 z2 v0 v1
  rw [rounds_succ]
  refine wp_world ?_
  intro U3 hU
  have hRU : Rd U3 p s k f mv := by rw [hU]; exact ((HRU2.out.alloc _).drewN _)
  have hMU : Mv p w U3 := by rw [hU]; exact ((HMU2.out.alloc _).drewN _)
  have hWU : WaysB U3 g := by rw [hU]; exact ((HWU2.out.alloc _).drewN _)
  have hlt := hRU.lt
  have hglt := heap_lt hWU
  have c0 := hRU.c0
  have c1 := hRU.c1
  have c2 := hRU.c2
  have z1 := hRU.z 1
  have z2 := hRU.z 2
  have v0 : U3.cell? ⟨g, 6, none⟩ = some (.string ⟨#[60]⟩) := by rw [Lib.cell_of_heap hWU]; rfl
  have v1 : U3.cell? ⟨g, 7, none⟩ = some (.func (Fn.func 58) #[] #[]) := by rw [Lib.cell_of_heap hWU]; rfl
  have HRU3 := Lib.hid hRU
  have HMU3 := Lib.hid hMU
  have HWU3 := Lib.hid hWU
  clear hU hRU hMU hWU
  go_wp2_with fail
  go_quiet ((go_at_call 63; exact (HP3.out _ _)))
  go_wp2_with fail
  clear hlt hglt c0 c1 c2 z1 z2 v0 v1
  rw [rounds_succ]
  refine wp_world ?_
  intro U4 hU
  have hRU : Rd U4 p s k f mv := by rw [hU]; exact ((HRU3.out.alloc _).drewN _)
  have hMU : Mv p w U4 := by rw [hU]; exact ((HMU3.out.alloc _).drewN _)
  have hWU : WaysB U4 g := by rw [hU]; exact ((HWU3.out.alloc _).drewN _)
  have hlt := hRU.lt
  have hglt := heap_lt hWU
  have c0 := hRU.c0
  have c1 := hRU.c1
  have c2 := hRU.c2
  have z1 := hRU.z 1
  have z2 := hRU.z 2
  have v0 : U4.cell? ⟨g, 8, none⟩ = some (.string ⟨#[]⟩) := by rw [Lib.cell_of_heap hWU]; rfl
  have v1 : U4.cell? ⟨g, 9, none⟩ = some (.func (Fn.func 59) #[] #[]) := by rw [Lib.cell_of_heap hWU]; rfl
  have HRU4 := Lib.hid hRU
  have HMU4 := Lib.hid hMU
  have HWU4 := Lib.hid hWU
  clear hU hRU hMU hWU
  go_wp2_with fail
  go_quiet ((go_at_call 63; exact (HP4.out _ _)))
  go_wp2_with fail
  refine wp_world ?_
  intro U hU
  have hq9 := HRU4.out.lt
  have hRU : Rd U p s k k mv := by rw [hU]; exact ((HRU4.out.alloc _).drewN _).at2 rfl
  have hMU : Mv p w U := by rw [hU]; exact ((HMU4.out.alloc _).drewN _).set 2 _
  have hWU : U.heap[U4.heap.size]? = some (.cells #[.string ⟨#[]⟩, .func (Fn.func 59) #[] #[]] 92 (0, 0)) := by
    rw [hU, Below.heap_setCell _ _ _ _ (by simp; omega)]
    exact heap_at _ _ _ (by simp)
  have t0 : U.cell? ⟨U4.heap.size, 0, none⟩ = some (.string ⟨#[]⟩) := by rw [Lib.cell_of_heap hWU]; rfl
  have t1 : U.cell? ⟨U4.heap.size, 1, none⟩ = some (.func (Fn.func 59) #[] #[]) := by rw [Lib.cell_of_heap hWU]; rfl
  have r1 := hRU.c1
  have rz := hRU.z 1
  have HRU := Lib.hid hRU
  have HMU := Lib.hid hMU
  clear hU hRU hMU hWU
  go_still_tail 10, (by kernel_rfl)
  go_wp2_with (go_at_call 59; refine (HC.out _ ⟨mv, zs, HZ.out, (HRU.out.at1 (by have := HX.out; exact Go.IntWalk.wrap64_in _ (by omega))).drew, HM.out.mv (HMU.out.set 1 _).drew HR.out⟩ (HG.out.mv (HMU.out.set 1 _).drew HX.out.1) (Nat.le_trans HX.out.2.1 (HMU.out.set 1 _).drew.size)).mono ?_; rintro e w9 hpost; rcases hpost.ways (HMU.out.set 1 _).drew.toQ with ⟨rfl, hN⟩ | ⟨x, c, rfl, hN⟩ <;> have HN := Lib.hid hN <;> clear hN hpost)
  · refine bodyPost_ret (results_none rfl _ _ _) rfl ?_
    exact HN.out
  · exact ⟨rfl, HN.out⟩
theorem nextW_any (w : World) (B p : Nat) (s : ByteArray) (k f : Nat) (ms : List Mk) (h : St w B p s k f ms) (hG : Glob w) (hp : 9 ≤ p) (hB : B ≤ w.heap.size) (hk : k < s.size) (hs : s.size ≤ 65536) (hn : ms.length ≤ 65536) (g : Nat) (hW : WaysB w g) :
    Calls Tryz.prog 40 #[.pointer (some ⟨p, 0, none⟩), .slice (some ⟨g, 0, none⟩) 5 5] w (NxPost w B p s k ms (stepD k (tl s k))) := by
  have hl := tl_length s k
  cases q0 : Lib.hasPrefix (tl s k) [60, 33, 45, 45] with
  | true =>
    rw [show stepD k (tl s k) = ((upO [45, 45, 62] (tl s (k + 4))).map fun _ => none).on 4 by unfold stepD; rw [if_pos q0, tl_drop]]
    exact next_0 w B p s k f ms h hG hp hB hk hs hn g hW q0 (by have := prefix_len q0; simp at this; omega)
  | false =>
  cases q1 : Lib.hasPrefix (tl s k) [60, 33, 91, 67, 68, 65, 84, 65, 91] with
  | true =>
    rw [show stepD k (tl s k) = (cdataO k (tl s (k + 9))).on 9 by unfold stepD; rw [if_neg (by simp [q0]), if_pos q1, tl_drop]]
    exact next_1 w B p s k f ms h hG hp hB hk hs hn g hW q0 q1 (by have := prefix_len q1; simp at this; omega)
  | false =>
  cases q2 : Lib.hasPrefix (tl s k) [60, 47] with
  | true =>
    rw [show stepD k (tl s k) = ((endO k (tl s (k + 2))).map some).on 2 by unfold stepD; rw [if_neg (by simp [q0]), if_neg (by simp [q1]), if_pos q2, tl_drop]]
    exact next_2 w B p s k f ms h hG hp hB hk hs hn g hW q0 q1 q2 (by have := prefix_len q2; simp at this; omega)
  | false =>
  cases q3 : Lib.hasPrefix (tl s k) [60] with
  | true =>
    rw [show stepD k (tl s k) = ((startO k (k + 1) (tl s (k + 1))).map some).on 1 by unfold stepD; rw [if_neg (by simp [q0]), if_neg (by simp [q1]), if_neg (by simp [q2]), if_pos q3, tl_drop]]
    exact next_3 w B p s k f ms h hG hp hB hk hs hn g hW q0 q1 q2 q3 (by have := prefix_len q3; simp at this; omega)
  | false =>
    rw [show stepD k (tl s k) = ((textO (tl s (k + 0))).map fun t => some ⟨3, [], [], false, t, k⟩).on 0 by unfold stepD; rw [if_neg (by simp [q0]), if_neg (by simp [q1]), if_neg (by simp [q2]), if_neg (by simp [q3]), Out.on_zero]; rfl]
    exact next_4 w B p s k f ms h hG hp hB hk hs hn g hW q0 q1 q2 q3 (by simp [Lib.hasPrefix]) (by omega)
end Go.Proofs.YtbokcihlbpeagaaGreatDoor
