/-
  What is proved: how the document's own disk lies in memory, and what its small functions leave, told by the same lists as the program's disk.
-/
import Derived.Test.YtkghjgpeobacjaaWhole
import Derived.Test.YtkghjgpeobacjaaSsd
import Derived.Maps.Own
import Derived.Maps.Views
import Derived.Maps.StringElems
namespace Go.Proofs.Ytkghjgpeobacjaa
open Go.RowKit
open Go.Maps (Keyed int_keyed keyOf_int_mk IsMap)

theorem law3 : Keyed Try.prog 3 := int_keyed Try.underlying3
noncomputable abbrev RE : Value → Option (DataW Unit × List MemPlace) := plainElem Try.prog 9
/-- a write of the document's buffer: its sector, the block of its bytes, its bytes -/
abbrev RB := Nat × Nat × List UInt8
def rbV (x : RB) : List Value := [.int .i64 (x.1 : Int), .slice (some ⟨x.2.1, 0, none⟩) 64 64]
def rrow (bs : List RB) : List Value := (bs.map rbV).flatten
def rbuf (bs : List RB) : List (Nat × List UInt8) := bs.map fun x => (x.1, x.2.2)
def armed (n : Int) : Int := if n < 0 then -1 else n
def MapOk (D : DataW Unit) (last : List (List UInt8)) : Prop := ∀ p (hp : p < last.length), ∃ l, D.atKey (.int .i64 (p : Int)) (.lit (.string [])) = .lit (.string l) ∧ l.length ≤ 64 ∧ pad l = last[p]

structure Rk (w : World) (m mp : Nat) (q : Option Nat) (bs : List RB) (s : D) (u : Nat) : Prop where
  ok : s.Ok
  ex : ∃ v n D, w.heap[m]? = some (.cells #[.int .i64 (s.last.length : Int), .map (some mp), v, .int .i64 (armed s.left), .bool (decide (s.left = 0))] 53 (0, 0)) ∧ w.ownsMap Try.prog 3 RE mp n D ∧ n ≤ u ∧ IsMap D ∧ MapOk D s.last ∧ w.ownsRow 0 90 2 v bs.length (rrow bs) ∧ v.ownBlock = q
  buf : s.buf = rbuf bs
  data : ∀ x ∈ bs, w.heap[x.2.1]? = some (.cells (bv x.2.2).toArray 5 (0, 0))
def RFoot (m mp : Nat) (q : Option Nat) (b : Nat) : Prop := b = m ∨ b = mp ∨ q = some b
theorem rfoot_m {m mp : Nat} {q : Option Nat} : RFoot m mp q m := Or.inl rfl
theorem rfoot_mp {m mp : Nat} {q : Option Nat} : RFoot m mp q mp := Or.inr (Or.inl rfl)
section
variable {w w' : World} {m mp : Nat} {q : Option Nat} {bs : List RB} {s : D} {u : Nat}
theorem map_keep {n : Nat} {D : DataW Unit} (h : w.ownsMap Try.prog 3 RE mp n D) (hk : w'.heap[mp]? = w.heap[mp]?) : w'.ownsMap Try.prog 3 RE mp n D := by
  obtain ⟨es, clock, hb, r⟩ := h
  exact ⟨es, clock, hk.trans hb, r⟩
theorem Rk.frame (h : Rk w m mp q bs s u) (hk : ∀ b, RFoot m mp q b → w'.heap[b]? = w.heap[b]?) (hd : ∀ x ∈ bs, w'.heap[x.2.1]? = w.heap[x.2.1]?) : Rk w' m mp q bs s u := by
  obtain ⟨ok, ⟨v, n, D, hm, hM, hn, hI, hO, hB, rfl⟩, hbuf, hdat⟩ := h
  exact ⟨ok, ⟨v, n, D, by rw [hk m rfoot_m]; exact hm, map_keep hM (hk mp rfoot_mp), hn, hI, hO, own_keep hB (fun b hb => hk b (Or.inr (Or.inr hb))), rfl⟩, hbuf, fun x hx => by rw [hd x hx]; exact hdat x hx⟩
theorem Rk.lt (h : Rk w m mp q bs s u) : ∀ b, RFoot m mp q b → b < w.heap.size := by
  obtain ⟨ok, ⟨v, n, D, hm, hM, hn, hI, hO, hB, rfl⟩, hbuf, hdat⟩ := h
  rintro b (rfl | rfl | hb)
  · exact (Array.getElem?_eq_some_iff.1 hm).1
  · exact hM.lt
  · exact (hB.lt b hb).2
theorem Rk.below (h : Rk w m mp q bs s u) (hb : Below w.heap.size w w') : Rk w' m mp q bs s u :=
  h.frame (fun b hf => hb.block b (h.lt b hf)) (fun x hx => hb.block _ (Array.getElem?_eq_some_iff.1 (h.data x hx)).1)
theorem Rk.drew (h : Rk w m mp q bs s u) : Rk w.drew m mp q bs s u := h.below ((Below.refl _ _).drew)
theorem Rk.alloc (h : Rk w m mp q bs s u) (o : Obj) : Rk (w.alloc o) m mp q bs s u := h.below ((Below.refl _ _).alloc (Nat.le_refl _) o)
theorem map_ne {b : Nat} {C : Array Value} {t : TypeId} {fr : Nat × Nat} {n : Nat} {D : DataW Unit} (h : w.ownsMap Try.prog 3 RE mp n D) (hb : w.heap[b]? = some (.cells C t fr)) : b ≠ mp := by
  intro e
  subst e
  obtain ⟨es, clock, hm, _⟩ := h
  rw [hm] at hb
  injection hb with hb
  cases hb
/-- blocks of other types are not the document's disk's -/
theorem Rk.other (h : Rk w m mp q bs s u) {b : Nat} {C : Array Value} {t : TypeId} {fr : Nat × Nat} (hb : w.heap[b]? = some (.cells C t fr)) (h1 : t ≠ 53) (h2 : t ≠ 90) : ¬ RFoot m mp q b := by
  obtain ⟨ok, ⟨v, n, D, hm, hM, hn, hI, hO, hB, rfl⟩, hbuf, hdat⟩ := h
  rintro (rfl | rfl | hf)
  · exact tag_ne hb hm h1 rfl
  · exact map_ne hM hb rfl
  · obtain ⟨C', hC'⟩ := own_tag hB hf
    exact tag_ne hb hC' h2 rfl
theorem Rk.apart (h : Rk w m mp q bs s u) : m ≠ mp ∧ q ≠ some m ∧ q ≠ some mp ∧ ∀ x ∈ bs, ¬ RFoot m mp q x.2.1 := by
  have h' := h
  obtain ⟨ok, ⟨v, n, D, hm, hM, hn, hI, hO, hB, rfl⟩, hbuf, hdat⟩ := h
  refine ⟨map_ne hM hm, fun e => ?_, fun e => ?_, fun x hx => h'.other (hdat x hx) (by decide) (by decide)⟩
  · obtain ⟨C', hC'⟩ := own_tag hB e
    exact tag_ne hm hC' (by decide) rfl
  · obtain ⟨C', hC'⟩ := own_tag hB e
    exact map_ne hM hC' rfl
/-- its fields -/
theorem Rk.form (h : Rk w m mp q bs s u) : ∃ A c n D, w.heap[m]? = some (.cells #[.int .i64 (s.last.length : Int), .map (some mp), .slice A bs.length c, .int .i64 (armed s.left), .bool (decide (s.left = 0))] 53 (0, 0)) ∧ w.ownsMap Try.prog 3 RE mp n D ∧ n ≤ u ∧ IsMap D ∧ MapOk D s.last ∧
    w.ownsRow 0 90 2 (.slice A bs.length c) bs.length (rrow bs) ∧ (Value.slice A bs.length c).ownBlock = q := by
  obtain ⟨ok, ⟨v, n, D, hm, hM, hn, hI, hO, hB, hq⟩, hbuf, hdat⟩ := h
  rcases hB.2 with ⟨rfl, h0⟩ | ⟨g', c, cur, rfl, _⟩
  · exact ⟨none, 0, n, D, by rw [h0]; exact hm, hM, hn, hI, hO, by rw [h0] at hB ⊢; exact hB, by rw [h0]; exact hq⟩
  · exact ⟨_, c, n, D, hm, hM, hn, hI, hO, hB, hq⟩
theorem five_cells {x0 x1 x2 x3 x4 : Value} (hg : w.heap[m]? = some (.cells #[x0, x1, x2, x3, x4] 53 (0, 0))) :
    w.cell? ⟨m, 0, none⟩ = some x0 ∧ w.cell? ⟨m, 1, none⟩ = some x1 ∧ w.cell? ⟨m, 2, none⟩ = some x2 ∧ w.cell? ⟨m, 3, none⟩ = some x3 ∧ w.cell? ⟨m, 4, none⟩ = some x4 ∧ ∀ j, w.frozen? ⟨m, j, none⟩ = false := by
  refine ⟨?_, ?_, ?_, ?_, ?_, ?_⟩
  · rw [cell_of_row w m 0 _ 53 (0, 0) hg]; rfl
  · rw [cell_of_row w m 1 _ 53 (0, 0) hg]; rfl
  · rw [cell_of_row w m 2 _ 53 (0, 0) hg]; rfl
  · rw [cell_of_row w m 3 _ 53 (0, 0) hg]; rfl
  · rw [cell_of_row w m 4 _ 53 (0, 0) hg]; rfl
  · intro j; simp [World.frozen?, hg]
/-- the disk's own block is written: what is armed -/
theorem Rk.left_ (h : Rk w m mp q bs s u) (n : Int) (h1 : -9223372036854775808 ≤ n) (h2 : n ≤ 9223372036854775807) (hk : ∀ b, b ≠ m → w'.heap[b]? = w.heap[b]?)
    (hm' : ∀ A c, w.heap[m]? = some (.cells #[.int .i64 (s.last.length : Int), .map (some mp), .slice A bs.length c, .int .i64 (armed s.left), .bool (decide (s.left = 0))] 53 (0, 0)) → w'.heap[m]? = some (.cells #[.int .i64 (s.last.length : Int), .map (some mp), .slice A bs.length c, .int .i64 (armed n), .bool (decide (n = 0))] 53 (0, 0))) :
    Rk w' m mp q bs ⟨s.last, s.buf, n⟩ u := by
  have ha := h.apart
  have ok := h.ok
  obtain ⟨A, c, k, D, hm, hM, hn, hI, hO, hB, hq⟩ := h.form
  refine ⟨⟨ok.sec, ok.wr, ok.pos, ok.most, h1, h2⟩, ⟨_, k, D, hm' A c hm, map_keep hM (hk mp (Ne.symm ha.1)), hn, hI, hO, own_keep hB (fun b hb => hk b (fun e => ha.2.1 (by rw [← hq, hb, e]))), hq⟩, h.buf, fun x hx => ?_⟩
  rw [hk _ (fun e => ha.2.2.2 x hx (Or.inl e))]
  exact h.data x hx
/-- .. that nothing waits -/
theorem Rk.nobuf (h : Rk w m mp q bs s u) : Rk (w.setCell ⟨m, 2, none⟩ (.slice none 0 0)) m mp none [] ⟨s.last, [], s.left⟩ u := by
  have ha := h.apart
  have ok := h.ok
  obtain ⟨A, c, k, D, hm, hM, hn, hI, hO, hB, hq⟩ := h.form
  exact ⟨⟨ok.sec, by simp, ok.pos, ok.most, ok.lo, ok.hi⟩, ⟨_, k, D, heap_setCell_at hm 2 _, map_keep hM (Below.heap_setCell _ _ _ _ (Ne.symm ha.1)), hn, hI, hO, World.ownsRow_nil _ _ _ _, rfl⟩, rfl, by simp⟩
/-- .. and that power is there again -/
theorem Rk.crashed (h : Rk w m mp q bs s u) : Rk (((w.setCell ⟨m, 2, none⟩ (.slice none 0 0)).setCell ⟨m, 4, none⟩ (.bool false)).setCell ⟨m, 3, none⟩ (.int .i64 (-1))) m mp none [] ⟨s.last, [], -1⟩ u := by
  refine h.nobuf.left_ (-1) (by omega) (by omega) (fun b hb => ?_) (fun A c hm => ?_)
  · rw [Below.heap_setCell _ _ _ _ hb, Below.heap_setCell _ _ _ _ hb]
  · exact heap_setCell_at (heap_setCell_at hm 4 _) 3 _
end
def RAfter (w w' : World) (m mp : Nat) (q : Option Nat) (s : D) (u : Nat) : Prop := ∃ q' bs', Rk w' m mp q' bs' s u ∧ Chg (RFoot m mp q) w w' ∧ ∀ k, q' = some k → q = some k ∨ w.heap.size ≤ k
theorem rfoot_back {w : World} {m mp : Nat} {q q' : Option Nat} (hq : ∀ k, q' = some k → q = some k ∨ w.heap.size ≤ k) : ∀ x, x < w.heap.size → RFoot m mp q' x → RFoot m mp q x := by
  rintro x hx (rfl | rfl | h)
  · exact .inl rfl
  · exact .inr (.inl rfl)
  · rcases hq x h with h | h
    · exact .inr (.inr h)
    · omega
theorem armed_tick {n : Int} (h : 0 < n) : armed (tick n) = armed n - 1 := by
  unfold armed tick
  rw [if_pos h, if_neg (by omega), if_neg (by omega)]

theorem chg_m {S : Nat → Prop} {a w : World} {m j : Nat} {v : Value} (hS : S m) (h : Chg S a w) : Chg S a (w.setCell ⟨m, j, none⟩ v) := Chg.setCell h (p := ⟨m, j, none⟩) (Or.inl hS) v
theorem armed_pos {n : Int} (h : 0 < n) : armed n = n := by unfold armed; rw [if_neg (by omega)]

set_option maxHeartbeats 1000000 in
theorem change_any (w : World) (m mp : Nat) (q : Option Nat) (bs : List RB) (s : D) (u : Nat) (h : Rk w m mp q bs s u) : Calls Try.prog 46 #[.pointer (some ⟨m, 0, none⟩)] w fun e w' => e = .returned (.tuple #[]) ∧ Rk w' m mp q bs ⟨s.last, s.buf, tick s.left⟩ u ∧ Chg (RFoot m mp q) w w' := by
  have H := Lib.hid h
  have hok := h.ok
  have lo := hok.lo
  have hi := hok.hi
  obtain ⟨A, c, n, Dm, hm, _⟩ := h.form
  obtain ⟨_, _, _, c3, c4, f⟩ := five_cells hm
  have f3 := f 3
  have f4 := f 4
  clear h hm f hok
  by_cases h0 : 0 < s.left
  · have ht : tick s.left = s.left - 1 := by unfold tick; rw [if_pos h0]
    have HT := Lib.hid ht
    rw [armed_pos h0] at c3
    by_cases h1 : s.left = 1
    · have fin : Rk ((w.setCell ⟨m, 3, none⟩ (.int .i64 0)).setCell ⟨m, 4, none⟩ (.bool true)) m mp q bs ⟨s.last, s.buf, tick s.left⟩ u := by
        have e : tick s.left = 0 := by rw [ht, h1]; rfl
        rw [e]
        exact H.out.left_ 0 (by omega) (by omega) (fun b hb => by rw [Below.heap_setCell _ _ _ _ hb, Below.heap_setCell _ _ _ _ hb]) (fun A c hm => heap_setCell_at (heap_setCell_at hm 3 _) 4 _)
      have HF := Lib.hid fin
      rw [h1] at c3
      clear fin ht lo hi h0 h1
      go_enter Try.func46, Try.ntmps46
      go_wp2_with fail
      go_end0
      exact ⟨rfl, HF.out, chg_m rfoot_m (chg_m rfoot_m (Chg.refl _ _))⟩
    · have fin : Rk (w.setCell ⟨m, 3, none⟩ (.int .i64 (s.left - 1))) m mp q bs ⟨s.last, s.buf, tick s.left⟩ u := by
        rw [ht]
        refine H.out.left_ _ (by omega) (by omega) (fun b hb => Below.heap_setCell _ _ _ _ hb) (fun A c hm => ?_)
        rw [heap_setCell_at hm 3 _, armed_pos (show 0 < s.left - 1 by omega)]
        have e1 : decide (s.left = 0) = decide (s.left - 1 = 0) := by
          rw [decide_eq_decide]; omega
        rw [e1]
        rfl
      have HF := Lib.hid fin
      have hne : ¬ s.left - 1 = 0 := by omega
      clear fin ht
      go_enter Try.func46, Try.ntmps46
      go_wp2_with fail
      go_end0
      exact ⟨rfl, HF.out, chg_m rfoot_m (Chg.refl _ _)⟩
  · have ht : tick s.left = s.left := by unfold tick; rw [if_neg h0]
    have hna : ¬ 0 < armed s.left := by unfold armed; split <;> omega
    have fin : Rk w m mp q bs ⟨s.last, s.buf, tick s.left⟩ u := by rw [ht]; exact H.out
    have HF := Lib.hid fin
    generalize armed s.left = x at *
    clear fin ht
    go_enter Try.func46, Try.ntmps46
    go_wp2_with fail
    go_end0
    exact ⟨rfl, HF.out, Chg.refl _ _⟩

set_option maxHeartbeats 1000000 in
theorem rarm_any (w : World) (m mp : Nat) (q : Option Nat) (bs : List RB) (s : D) (u : Nat) (h : Rk w m mp q bs s u) (n : Int) (h1 : -9223372036854775808 ≤ n) (h2 : n ≤ 9223372036854775807) : Calls Try.prog 16 #[.pointer (some ⟨m, 0, none⟩), .int .i64 n] w fun e w' => e = .returned (.tuple #[]) ∧ RAfter w w' m mp q (s.aSt n) u := by
  have H := Lib.hid h
  obtain ⟨A, c, k, Dm, hm, _⟩ := h.form
  obtain ⟨_, _, _, c3, c4, f⟩ := five_cells hm
  have f3 := f 3
  have f4 := f 4
  clear h hm f
  by_cases h0 : s.left = 0
  · have hs : s.aSt n = s := by unfold D.aSt; rw [if_pos h0]
    have hd : decide (s.left = 0) = true := by simp [h0]
    rw [hd] at c4
    rw [hs]
    clear hd hs
    go_enter Try.func16, Try.ntmps16
    go_wp2_with fail
    refine bodyPost_ret (results_none rfl _ _ _) rfl ?_
    exact ⟨rfl, q, bs, H.out, Chg.refl _ _, fun _ h => .inl h⟩
  · have hs : s.aSt n = ⟨s.last, s.buf, n⟩ := by unfold D.aSt; rw [if_neg h0]
    have hd : decide (s.left = 0) = false := by simp [h0]
    have HDD := Lib.hid hd
    rw [hd] at c4
    rw [hs]
    clear hs hd
    have HE : Hid (∀ W, Rk W m mp q bs ⟨s.last, s.buf, n⟩ u → Chg (RFoot m mp q) w W → RAfter w W m mp q ⟨s.last, s.buf, n⟩ u) := fun W a b => ⟨q, bs, a, b, fun _ h => .inl h⟩
    by_cases hn : n < 0
    · have fin : Rk (w.setCell ⟨m, 3, none⟩ (.int .i64 (-1))) m mp q bs ⟨s.last, s.buf, n⟩ u := by
        refine H.out.left_ _ h1 h2 (fun b hb => Below.heap_setCell _ _ _ _ hb) (fun A c hm => ?_)
        have e1 : armed n = -1 := by unfold armed; rw [if_pos hn]
        have e2 : decide (n = 0) = decide (s.left = 0) := by rw [decide_eq_decide]; omega
        rw [heap_setCell_at hm 3 _, e1, e2]
        rfl
      have HF := Lib.hid fin
      clear fin
      go_enter Try.func16, Try.ntmps16
      go_wp2_with fail
      go_end0
      exact ⟨rfl, HE.out _ HF.out (chg_m rfoot_m (Chg.refl _ _))⟩
    · by_cases hz : n = 0
      · subst hz
        have fin : Rk ((w.setCell ⟨m, 3, none⟩ (.int .i64 0)).setCell ⟨m, 4, none⟩ (.bool true)) m mp q bs ⟨s.last, s.buf, 0⟩ u := by
          exact H.out.left_ 0 (by omega) (by omega) (fun b hb => by rw [Below.heap_setCell _ _ _ _ hb, Below.heap_setCell _ _ _ _ hb]) (fun A c hm => heap_setCell_at (heap_setCell_at hm 3 _) 4 _)
        have HF := Lib.hid fin
        clear fin
        go_enter Try.func16, Try.ntmps16
        go_wp2_with fail
        go_end0
        exact ⟨rfl, HE.out _ HF.out (chg_m rfoot_m (chg_m rfoot_m (Chg.refl _ _)))⟩
      · have fin : Rk (w.setCell ⟨m, 3, none⟩ (.int .i64 n)) m mp q bs ⟨s.last, s.buf, n⟩ u := by
          refine H.out.left_ _ h1 h2 (fun b hb => Below.heap_setCell _ _ _ _ hb) (fun A c hm => ?_)
          have e1 : armed n = n := by unfold armed; rw [if_neg hn]
          have e2 : decide (n = 0) = decide (s.left = 0) := by rw [decide_eq_decide]; omega
          rw [heap_setCell_at hm 3 _, e1, e2]
          rfl
        have HF := Lib.hid fin
        clear fin
        go_enter Try.func16, Try.ntmps16
        go_wp2_with fail
        go_end0
        exact ⟨rfl, HE.out _ HF.out (chg_m rfoot_m (Chg.refl _ _))⟩

/-- what the document's New answers -/
def RNewPost (w : World) (n : Nat) (e : Ending) (w' : World) : Prop := ∃ m mp, e = .returned (.pointer (some ⟨m, 0, none⟩)) ∧ Rk w' m mp none [] (newSt n) 0 ∧ Below w.heap.size w w' ∧ w.heap.size ≤ m ∧ w.heap.size ≤ mp
theorem rnew_fin (w : World) (n : Nat) (h1 : 1 ≤ n) (h2 : n ≤ 65536) : RNewPost w n (.returned (.pointer (some ⟨w.heap.size + 1, 0, none⟩))) ((w.alloc (.map #[] 0)).alloc (.cells #[.int .i64 (n : Int), .map (some w.heap.size), .slice none 0 0, .int .i64 (-1), .bool false] 53)) := by
  have e : (w.alloc (.map #[] 0)).heap.size = w.heap.size + 1 := by simp
  refine ⟨w.heap.size + 1, w.heap.size, rfl, ⟨newSt_ok n h1 h2, ⟨.slice none 0 0, 0, .map [], ?_, (World.ownsMap_made w Try.prog 3 RE).alloc _, Nat.le_refl _, ⟨[], rfl⟩, ?_, World.ownsRow_nil _ _ _ _, rfl⟩, rfl, by simp⟩, ((Below.refl _ _).alloc (Nat.le_refl _) _).alloc (by simp) _, by omega, by omega⟩
  · rw [← e, heap_alloc_new]
    simp [newSt, armed]
  · intro p hp
    refine ⟨[], rfl, by simp, ?_⟩
    simp [newSt, pad, zer]

set_option maxHeartbeats 1000000 in
theorem rnew_any (w : World) (n : Int) : Calls Try.prog 9 #[.int .i64 n] w (RNewPost w (newN n)) := by
  have hmm := @run_makeMap Try.prog
  have hn1 : 1 ≤ newN n := by unfold newN; omega
  have hn2 : newN n ≤ 65536 := by unfold newN; omega
  have HF := Lib.hid (rnew_fin w (newN n) hn1 hn2)
  clear hn1 hn2
  by_cases h1 : n < 1
  · have e : newN n = 1 := by unfold newN; omega
    rw [e] at HF ⊢
    clear e
    go_enter Try.func9, Try.ntmps9
    go_wp2_with fail
    go_ret
    exact HF.out
  · by_cases h2 : 65536 < n
    · have e : newN n = 65536 := by unfold newN; omega
      rw [e] at HF ⊢
      clear e
      go_enter Try.func9, Try.ntmps9
      go_wp2_with fail
      go_ret
      exact HF.out
    · have e : ((newN n : Nat) : Int) = n := by unfold newN; omega
      rw [e] at HF
      clear e
      go_enter Try.func9, Try.ntmps9
      go_wp2_with fail
      go_ret
      exact HF.out
end Go.Proofs.Ytkghjgpeobacjaa
