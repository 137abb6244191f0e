/-
  What is proved: the program's disk and the document's, side by side: what is done to one turns nothing of the other; and the law's own comparison of them answers true where they are the same.
-/
import Derived.Test.YtmajmohnnfjiaaaRput
namespace Go.Proofs.Ytmajmohnnfjiaaa
open Go.RowKit

/-- the document's disk, of the law's own -/
def RMine (w0 w : World) (m : Nat) (s : D) (u : Nat) : Prop := ∃ mp q bs, Rk w m mp q bs s u ∧ Below w0.heap.size w0 w ∧ ∀ b, RFoot m mp q b → w0.heap.size ≤ b
/-- what is of neither's types is as it was -/
def Oth (w w' : World) : Prop := ∀ (b : Nat) (C : Array Value) (t : TypeId) (fr : Nat × Nat), w.heap[b]? = some (.cells C t fr) → t ≠ 58 → t ≠ 64 → t ≠ 66 → t ≠ 62 → t ≠ 68 → w'.heap[b]? = some (.cells C t fr)
theorem Oth.below {w w' : World} (hb : Below w.heap.size w w') : Oth w w' := fun b C t fr h _ _ _ _ _ => by rw [hb.block b (Array.getElem?_eq_some_iff.1 h).1]; exact h
section
variable {w0 w w' : World} {g m : Nat} {s s' sr : D} {u u' : Nat}
theorem RMine.below (h : RMine w0 w m s u) (hb : Below w.heap.size w w') : RMine w0 w' m s u := by
  obtain ⟨mp, q, bs, hr, hb0, hf⟩ := h
  exact ⟨mp, q, bs, hr.below hb, hb0.trans (hb.mono hb0.size), hf⟩
theorem RMine.more (h : RMine w0 w m s u) (hu : u ≤ u') : RMine w0 w m s u' := by
  obtain ⟨mp, q, bs, ⟨ok, ⟨v, n, D', a1, a2, a3, a4⟩, b1, b2⟩, hb0, hf⟩ := h
  exact ⟨mp, q, bs, ⟨ok, ⟨v, n, D', a1, a2, by omega, a4⟩, b1, b2⟩, hb0, hf⟩
theorem Dk.noMap {L : Nat} {q : Option Nat} (h : Dk w g L q s) {b : Nat} {es : Array MapEntry} {clock : Nat} (hb : w.heap[b]? = some (.map es clock)) : ¬ Foot g L q b := by
  obtain ⟨ok, cap, v, hg, hL, hB, rfl⟩ := h
  rintro (rfl | rfl | hf)
  · rw [hb] at hg; injection hg with hg; cases hg
  · obtain ⟨C', hC'⟩ := own_tag hL (b := b) rfl
    rw [hb] at hC'; injection hC' with hC'; cases hC'
  · obtain ⟨C', hC'⟩ := own_tag hB hf
    rw [hb] at hC'; injection hC' with hC'; cases hC'
/-- what is done to the program's disk turns nothing of the document's -/
theorem keepR {L : Nat} {q : Option Nat} (hd : Dk w g L q s) (hc : Chg (Foot g L q) w w') (hr : RMine w0 w m sr u) (hb : Below w0.heap.size w0 w') : RMine w0 w' m sr u := by
  obtain ⟨mp, qr, bs, hk, hb0, hf⟩ := hr
  have hk' := hk
  obtain ⟨ok, ⟨v, n, Dm, hm, hM, hn, hI, hO, hB, hq⟩, hbuf, hdat⟩ := hk
  refine ⟨mp, qr, bs, hk'.frame (fun b hfb => hc.block b (hk'.lt b hfb) ?_) (fun x hx => hc.block _ (Array.getElem?_eq_some_iff.1 (hdat x hx)).1 (hd.other (hdat x hx) (by decide) (by decide) (by decide))), hb, hf⟩
  rcases hfb with rfl | rfl | hfb
  · exact hd.other hm (by decide) (by decide) (by decide)
  · obtain ⟨es, clock, hme, _⟩ := hM
    exact hd.noMap hme
  · rw [← hq] at hfb
    obtain ⟨C', hC'⟩ := own_tag hB hfb
    exact hd.other hC' (by decide) (by decide) (by decide)
/-- what is done to the document's disk turns nothing of the program's -/
theorem keepD {mp : Nat} {q : Option Nat} {bs : List RB} (hr : Rk w m mp q bs sr u) (hc : Chg (RFoot m mp q) w w') (hM : Mine w0 w g s) (hb : Below w0.heap.size w0 w') : Mine w0 w' g s := by
  obtain ⟨L, qd, hd, hb0, hf⟩ := hM
  have hd' := hd
  obtain ⟨ok, cap, v, hg, hL, hB, hq⟩ := hd
  refine ⟨L, qd, hd'.frame (fun b hfb => hc.block b (hd'.lt b hfb) ?_), hb, hf⟩
  rcases hfb with rfl | rfl | hfb
  · exact hr.other hg (by decide) (by decide)
  · obtain ⟨C', hC'⟩ := own_tag hL (b := b) rfl
    exact hr.other hC' (by decide) (by decide)
  · rw [← hq] at hfb
    obtain ⟨C', hC'⟩ := own_tag hB hfb
    exact hr.other hC' (by decide) (by decide)
theorem oth_disk {L : Nat} {q : Option Nat} (hd : Dk w g L q s) (hc : Chg (Foot g L q) w w') : Oth w w' := fun b C t fr hb h1 h2 h3 _ _ => by
  rw [hc.block b (Array.getElem?_eq_some_iff.1 hb).1 (hd.other hb h1 h2 h3)]
  exact hb
theorem oth_ref {mp : Nat} {q : Option Nat} {bs : List RB} (hr : Rk w m mp q bs sr u) (hc : Chg (RFoot m mp q) w w') : Oth w w' := fun b C t fr hb _ _ _ h4 h5 => by
  rw [hc.block b (Array.getElem?_eq_some_iff.1 hb).1 (hr.other hb h4 h5)]
  exact hb
/-- both -/
def PM (w0 w : World) (g m : Nat) (s sr : D) (u : Nat) : Prop := Mine w0 w g s ∧ RMine w0 w m sr u
theorem PM.below (h : PM w0 w g m s sr u) (hb : Below w.heap.size w w') : PM w0 w' g m s sr u := ⟨h.1.below hb, h.2.below hb⟩
theorem PM.disk {L : Nat} {q : Option Nat} (hd : Dk w g L q s) (hb0 : Below w0.heap.size w0 w) (hf : ∀ b, Foot g L q b → w0.heap.size ≤ b) (hr : RMine w0 w m sr u) (h : After w w' g L q s') : PM w0 w' g m s' sr u ∧ Oth w w' := by
  have hA := Mine.after hd hb0 hf h
  obtain ⟨q', hd', hc, hq⟩ := h
  exact ⟨⟨hA.1, keepR hd hc hr hA.1.b⟩, oth_disk hd hc⟩
theorem PM.ref {mp : Nat} {q : Option Nat} {bs : List RB} (hr : Rk w m mp q bs sr u) (hb0 : Below w0.heap.size w0 w) (hf : ∀ b, RFoot m mp q b → w0.heap.size ≤ b) (hM : Mine w0 w g s) (h : RAfter w w' m mp q s' u') : PM w0 w' g m s s' u' ∧ Oth w w' := by
  obtain ⟨q', bs', hr', hc, hq⟩ := h
  have hb := Chg.below hb0 hc hb0.size hf
  refine ⟨⟨keepD hr hc hM hb, mp, q', bs', hr', hb, ?_⟩, oth_ref hr hc⟩
  rintro b (e | e | e)
  · exact hf b (.inl e)
  · exact hf b (.inr (.inl e))
  · rcases hq b e with e | e
    · exact hf b (.inr (.inr e))
    · have := hb0.size; omega
theorem RMine.len (h : RMine w0 w m s u) : ∃ mp q bs, Rk w m mp q bs s u ∧ bs.length = s.buf.length := by
  obtain ⟨mp, q, bs, hr, _⟩ := h
  exact ⟨mp, q, bs, hr, by rw [hr.buf]; simp [rbuf]⟩
theorem pm_write (h : PM w0 w g m s sr u) (i : Int) (A : Option Addr) (n c : Nat) (l : List UInt8) (hl : Hold w A n c l) (hn : n ≤ 281474976710656) (hb : s.buf.length ≤ 1048576) :
    Calls Try.prog 11 #[.pointer (some ⟨g, 0, none⟩), .int .i64 i, .slice A n c] w fun e w' => e = .returned (.int .i64 (s.wErr i n)) ∧ PM w0 w' g m (s.wSt i l) sr u ∧ Oth w w' := by
  obtain ⟨⟨L, q, hd, hb0, hf⟩, hr⟩ := h
  exact (write_any w g L q s hd i A n c l hl hn (by omega)).mono fun e w' ⟨h1, h2⟩ => ⟨h1, PM.disk hd hb0 hf hr h2⟩
theorem pm_flush (h : PM w0 w g m s sr u) (hb : s.buf.length ≤ 1048576) : Calls Try.prog 13 #[.pointer (some ⟨g, 0, none⟩)] w fun e w' => e = .returned (.int .i64 s.fErr) ∧ PM w0 w' g m s.fSt sr u ∧ Oth w w' := by
  obtain ⟨⟨L, q, hd, hb0, hf⟩, hr⟩ := h
  exact (flush_any w g L q s hd (by omega)).mono fun e w' ⟨h1, h2⟩ => ⟨h1, PM.disk hd hb0 hf hr h2⟩
theorem pm_arm (h : PM w0 w g m s sr u) (n : Int) (h1 : -9223372036854775808 ≤ n) (h2 : n ≤ 9223372036854775807) : Calls Try.prog 15 #[.pointer (some ⟨g, 0, none⟩), .int .i64 n] w fun e w' => e = .returned (.tuple #[]) ∧ PM w0 w' g m (s.aSt n) sr u ∧ Oth w w' := by
  obtain ⟨⟨L, q, hd, hb0, hf⟩, hr⟩ := h
  exact (arm_any w g L q s hd n h1 h2).mono fun e w' ⟨h1, h2⟩ => ⟨h1, PM.disk hd hb0 hf hr h2⟩
theorem pm_crash (h : PM w0 w g m s sr u) (k t : Int) (hb : s.buf.length ≤ 1048576) : Calls Try.prog 17 #[.pointer (some ⟨g, 0, none⟩), .int .i64 k, .int .i64 t] w fun e w' => e = .returned (.tuple #[]) ∧ PM w0 w' g m (s.cSt k t) sr u ∧ Oth w w' := by
  obtain ⟨⟨L, q, hd, hb0, hf⟩, hr⟩ := h
  exact (crash_any w g L q s hd k t (by omega)).mono fun e w' ⟨h1, h2⟩ => ⟨h1, PM.disk hd hb0 hf hr h2⟩
theorem pm_rwrite (h : PM w0 w g m s sr u) (i : Int) (A : Option Addr) (n c : Nat) (l : List UInt8) (hl : Hold w A n c l) (hb : sr.buf.length ≤ 1048576) :
    Calls Try.prog 12 #[.pointer (some ⟨m, 0, none⟩), .int .i64 i, .slice A n c] w fun e w' => e = .returned (.int .i64 (sr.wErr i n)) ∧ PM w0 w' g m s (sr.wSt i l) u ∧ Oth w w' := by
  obtain ⟨hM, mp, q, bs, hr, hb0, hf⟩ := h
  have hln : bs.length = sr.buf.length := by rw [hr.buf]; simp [rbuf]
  exact (rwrite_any w m mp q bs sr u hr i A n c l hl (by omega)).mono fun e w' ⟨h1, h2⟩ => ⟨h1, PM.ref hr hb0 hf hM h2⟩
theorem pm_rflush (h : PM w0 w g m s sr u) (hb : sr.buf.length ≤ 1048576) (hu : u ≤ 4611686018427387904) : Calls Try.prog 14 #[.pointer (some ⟨m, 0, none⟩)] w fun e w' => e = .returned (.int .i64 sr.fErr) ∧ PM w0 w' g m s sr.fSt (u + 1048577) ∧ Oth w w' := by
  obtain ⟨hM, mp, q, bs, hr, hb0, hf⟩ := h
  have hln : bs.length = sr.buf.length := by rw [hr.buf]; simp [rbuf]
  exact (rflush_any w m mp q bs sr u hr (by omega) hu).mono fun e w' ⟨h1, h2⟩ => ⟨h1, PM.ref hr hb0 hf hM (h2.more (by omega))⟩
theorem pm_rarm (h : PM w0 w g m s sr u) (n : Int) (h1 : -9223372036854775808 ≤ n) (h2 : n ≤ 9223372036854775807) : Calls Try.prog 16 #[.pointer (some ⟨m, 0, none⟩), .int .i64 n] w fun e w' => e = .returned (.tuple #[]) ∧ PM w0 w' g m s (sr.aSt n) u ∧ Oth w w' := by
  obtain ⟨hM, mp, q, bs, hr, hb0, hf⟩ := h
  exact (rarm_any w m mp q bs sr u hr n h1 h2).mono fun e w' ⟨h1, h2⟩ => ⟨h1, PM.ref hr hb0 hf hM h2⟩
theorem pm_rcrash (h : PM w0 w g m s sr u) (k t : Int) (hb : sr.buf.length ≤ 1048576) (hu : u ≤ 4611686018427387904) : Calls Try.prog 18 #[.pointer (some ⟨m, 0, none⟩), .int .i64 k, .int .i64 t] w fun e w' => e = .returned (.tuple #[]) ∧ PM w0 w' g m s (sr.cSt k t) (u + 1048577) ∧ Oth w w' := by
  obtain ⟨hM, mp, q, bs, hr, hb0, hf⟩ := h
  have hln : bs.length = sr.buf.length := by rw [hr.buf]; simp [rbuf]
  exact (rcrash_any w m mp q bs sr u hr k t (by omega) hu).mono fun e w' ⟨h1, h2⟩ => ⟨h1, PM.ref hr hb0 hf hM (h2.more (by omega))⟩
/-- what both Reads answer: the same -/
def Same2 (w : World) (s : D) (i : Int) (v : Value) (w' : World) : Prop := ∃ A n c l, v = .tuple #[.slice A n c, .int .i64 (s.refuse i)] ∧ Hold w' A n c l ∧ l = (if s.refuse i = 0 then s.told i.toNat else []) ∧ Below w.heap.size w w'
theorem read_same (h : Mine w0 w g s) (i : Int) (hb : s.buf.length ≤ 1048576) : Calls Try.prog 20 #[.pointer (some ⟨g, 0, none⟩), .int .i64 i] w fun e w' => ∃ v, e = .returned v ∧ Same2 w s i v w' := by
  obtain ⟨L, q, hd, hb0, hf⟩ := h
  refine (read_any w g L q s hd i (by omega)).mono fun e w' hp => ?_
  unfold ReadPost at hp
  by_cases hr : s.refuse i = 0
  · rw [if_pos hr] at hp
    obtain ⟨k, h1, h2, h3, h4⟩ := hp
    obtain ⟨_, hi1, hi2⟩ := refuse_zero hr
    have hl := hd.ok.told_len (i := i.toNat) (by omega)
    exact ⟨_, h1, _, _, _, _, by rw [hr], Hold.block h3 64 hl.symm, by rw [if_pos hr], h4⟩
  · rw [if_neg hr] at hp
    obtain ⟨h1, rfl⟩ := hp
    exact ⟨_, h1, _, _, _, _, rfl, Hold.nil _, by rw [if_neg hr], Below.refl _ _⟩
theorem rread_same (h : RMine w0 w m s u) (i : Int) (hb : s.buf.length ≤ 1048576) : Calls Try.prog 21 #[.pointer (some ⟨m, 0, none⟩), .int .i64 i] w fun e w' => ∃ v, e = .returned v ∧ Same2 w s i v w' := by
  obtain ⟨mp, q, bs, hk, hb0, hf⟩ := h
  have hln : bs.length = s.buf.length := by rw [hk.buf]; simp [rbuf]
  refine (rread_any w m mp q bs s u hk i (by omega)).mono fun e w' hp => ?_
  unfold RReadPost at hp
  by_cases hr : s.refuse i = 0
  · rw [if_pos hr] at hp
    obtain ⟨k, h1, h2, h3, h4⟩ := hp
    obtain ⟨_, hi1, hi2⟩ := refuse_zero hr
    have hl := hk.ok.told_len (i := i.toNat) (by omega)
    exact ⟨_, h1, _, _, _, _, by rw [hr], Hold.block h3 64 hl.symm, by rw [if_pos hr], h4⟩
  · rw [if_neg hr] at hp
    obtain ⟨h1, rfl⟩ := hp
    exact ⟨_, h1, _, _, _, _, rfl, Hold.nil _, by rw [if_neg hr], Below.refl _ _⟩
end

/-- what the operations of the comparison's first line yield -/
def smF (g m : Nat) (s : D) (A : Option Addr) (bl c : Nat) : Nat → Value → Prop
  | 0, v | 8, v | 17, v => v = .pointer (some ⟨g, 0, none⟩)
  | 1, v | 5, v => v = .bool (decide (s.left = 0))
  | 2, v | 3, v | 10, v | 11, v | 12, v | 19, v | 20, v => v = .pointer (some ⟨m, 0, none⟩)
  | 4, v => v = .pointer (some ⟨m, 4, none⟩)
  | 21, v => v = .pointer (some ⟨m, 2, none⟩)
  | 9, v | 13, v => v = .int .i64 (s.last.length : Int)
  | 18, v | 23, v => v = .int .i64 (s.buf.length : Int)
  | 22, v => v = .slice A bl c
  | _, v => v = .bool false

set_option maxRecDepth 100000 in
set_option maxHeartbeats 2000000 in
theorem same_any (w0 w : World) (g m : Nat) (s : D) (u : Nat) (h : PM w0 w g m s s u) (hb : s.buf.length ≤ 1048576) : Calls Try.prog 22 #[.pointer (some ⟨g, 0, none⟩), .pointer (some ⟨m, 0, none⟩), .int .i64 5] w fun e w' => e = .returned (.bool true) ∧ Below w.heap.size w w' := by
  have HM := Lib.hid h.1
  have HR := Lib.hid h.2
  obtain ⟨mp, q, bs, hk, hlen⟩ := h.2.len
  have HLEN := Lib.hid hlen
  obtain ⟨A, c, k, Dm, hm, _⟩ := hk.form
  have HC : Hid (∀ W, Below w.drew.heap.size w.drew W → W.cell? ⟨m, 0, none⟩ = some (.int .i64 (s.last.length : Int)) ∧ W.cell? ⟨m, 1, none⟩ = some (.map (some mp)) ∧ W.cell? ⟨m, 2, none⟩ = some (.slice A bs.length c) ∧ W.cell? ⟨m, 3, none⟩ = some (.int .i64 (armed s.left)) ∧ W.cell? ⟨m, 4, none⟩ = some (.bool (decide (s.left = 0))) ∧ ∀ j, W.frozen? ⟨m, j, none⟩ = false) := fun W hbW =>
    five_cells ((hbW.block m (hk.lt m rfoot_m)).trans hm)
  clear h hm hk hlen
  go_enter Try.func22, Try.ntmps22
  go_wp2_with fail
  refine wp_region_steps (fun i v _ => smF g m s A bs.length c i v) (fun w w' => Below w.heap.size w w') (by kernel_rfl) (by kernel_rfl) (fun w => Below.refl _ _) (fun _ _ _ h k => Below.trans h (Below.mono k (Below.size h))) (fun _ _ _ _ h _ => h) ?_ ?_
  · refine ⟨?_, ?_, ?_, ?_, ?_, ?_, ?_, ?_, ?_, ?_, ?_, ?_, ?_, ?_, ?_, ?_, ?_, ?_, ?_, ?_, ?_, ?_, ?_, ?_, ?_, ?_, trivial⟩
    · intro a W hR hoff hd
      left
      refine ⟨rfl, ?_⟩
      have e0 : a.tmps.getD 0 undef = .pointer (some ⟨g, 0, none⟩) := hoff.slot 0 (no_dst (by kernel_rfl))
      go_simp
      exact ⟨_, rfl, rfl, Below.refl _ _⟩
    · intro a W hR hoff hd
      left
      refine ⟨rfl, ?_⟩
      have e0 : a.tmps.getD 12 undef = .pointer (some ⟨g, 0, none⟩) := hd 0 _ rfl rfl
      have hm := Lib.hid (HM.out.drew.below hR)
      go_simp
      refine (down_mine hm.out).mono ?_
      rintro e W2 ⟨rfl, rfl⟩
      exact ⟨_, rfl, rfl, Below.refl _ _⟩
    · intro a W hR hoff hd
      left
      refine ⟨rfl, ?_⟩
      have e0 : a.tmps.getD 1 undef = .pointer (some ⟨m, 0, none⟩) := hoff.slot 1 (no_dst (by kernel_rfl))
      go_simp
      exact ⟨_, rfl, rfl, Below.refl _ _⟩
    · intro a W hR hoff hd
      left
      refine ⟨rfl, ?_⟩
      have e0 : a.tmps.getD 14 undef = .pointer (some ⟨m, 0, none⟩) := hd 2 _ rfl rfl
      go_simp
      exact ⟨_, rfl, rfl, Below.refl _ _⟩
    · intro a W hR hoff hd
      left
      refine ⟨rfl, ?_⟩
      have e0 : a.tmps.getD 15 undef = .pointer (some ⟨m, 0, none⟩) := hd 3 _ rfl rfl
      go_simp
      exact ⟨_, rfl, rfl, Below.refl _ _⟩
    · intro a W hR hoff hd
      left
      refine ⟨rfl, ?_⟩
      have e0 : a.tmps.getD 16 undef = .pointer (some ⟨m, 4, none⟩) := hd 4 _ rfl rfl
      obtain ⟨_, _, _, _, x4, _⟩ := HC.out W hR
      go_simp
      exact ⟨_, rfl, rfl, Below.refl _ _⟩
    · intro a W hR hoff hd
      left
      refine ⟨rfl, ?_⟩
      have e0 : a.tmps.getD 13 undef = .bool (decide (s.left = 0)) := hd 1 _ rfl rfl
      have e1 : a.tmps.getD 17 undef = .bool (decide (s.left = 0)) := hd 5 _ rfl rfl
      go_simp
      exact ⟨_, rfl, rfl, Below.refl _ _⟩
    · intro a W hR hoff hd
      left
      refine ⟨rfl, ?_⟩
      have e0 : a.tmps.getD 18 undef = .bool false := hd 6 _ rfl rfl
      go_simp
      exact ⟨_, rfl, rfl, Below.refl _ _⟩
    · intro a W hR hoff hd
      left
      have eg : a.tmps.getD 19 undef = .bool false := hd 7 _ rfl rfl
      refine ⟨wanted_of (ops := _) (j := 7) (b := false) rfl rfl rfl eg, ?_⟩
      clear eg
      have e0 : a.tmps.getD 0 undef = .pointer (some ⟨g, 0, none⟩) := hoff.slot 0 (no_dst (by kernel_rfl))
      go_simp
      exact ⟨_, rfl, rfl, Below.refl _ _⟩
    · intro a W hR hoff hd
      left
      have eg : a.tmps.getD 19 undef = .bool false := hd 7 _ rfl rfl
      refine ⟨wanted_of (ops := _) (j := 7) (b := false) rfl rfl rfl eg, ?_⟩
      clear eg
      have e0 : a.tmps.getD 20 undef = .pointer (some ⟨g, 0, none⟩) := hd 8 _ rfl rfl
      have hm := Lib.hid (HM.out.drew.below hR)
      go_simp
      refine (size_mine hm.out).mono ?_
      rintro e W2 ⟨rfl, rfl⟩
      exact ⟨_, rfl, rfl, Below.refl _ _⟩
    · intro a W hR hoff hd
      left
      have eg : a.tmps.getD 19 undef = .bool false := hd 7 _ rfl rfl
      refine ⟨wanted_of (ops := _) (j := 7) (b := false) rfl rfl rfl eg, ?_⟩
      clear eg
      have e0 : a.tmps.getD 1 undef = .pointer (some ⟨m, 0, none⟩) := hoff.slot 1 (no_dst (by kernel_rfl))
      go_simp
      exact ⟨_, rfl, rfl, Below.refl _ _⟩
    · intro a W hR hoff hd
      left
      have eg : a.tmps.getD 19 undef = .bool false := hd 7 _ rfl rfl
      refine ⟨wanted_of (ops := _) (j := 7) (b := false) rfl rfl rfl eg, ?_⟩
      clear eg
      have e0 : a.tmps.getD 22 undef = .pointer (some ⟨m, 0, none⟩) := hd 10 _ rfl rfl
      go_simp
      exact ⟨_, rfl, rfl, Below.refl _ _⟩
    · intro a W hR hoff hd
      left
      have eg : a.tmps.getD 19 undef = .bool false := hd 7 _ rfl rfl
      refine ⟨wanted_of (ops := _) (j := 7) (b := false) rfl rfl rfl eg, ?_⟩
      clear eg
      have e0 : a.tmps.getD 23 undef = .pointer (some ⟨m, 0, none⟩) := hd 11 _ rfl rfl
      go_simp
      exact ⟨_, rfl, rfl, Below.refl _ _⟩
    · intro a W hR hoff hd
      left
      have eg : a.tmps.getD 19 undef = .bool false := hd 7 _ rfl rfl
      refine ⟨wanted_of (ops := _) (j := 7) (b := false) rfl rfl rfl eg, ?_⟩
      clear eg
      have e0 : a.tmps.getD 24 undef = .pointer (some ⟨m, 0, none⟩) := hd 12 _ rfl rfl
      obtain ⟨x0, _, _, _, _, _⟩ := HC.out W hR
      go_simp
      exact ⟨_, rfl, rfl, Below.refl _ _⟩
    · intro a W hR hoff hd
      left
      have eg : a.tmps.getD 19 undef = .bool false := hd 7 _ rfl rfl
      refine ⟨wanted_of (ops := _) (j := 7) (b := false) rfl rfl rfl eg, ?_⟩
      clear eg
      have e0 : a.tmps.getD 21 undef = .int .i64 (s.last.length : Int) := hd 9 _ rfl rfl
      have e1 : a.tmps.getD 25 undef = .int .i64 (s.last.length : Int) := hd 13 _ rfl rfl
      go_simp
      exact ⟨_, rfl, rfl, Below.refl _ _⟩
    · intro a W hR hoff hd
      left
      refine ⟨rfl, ?_⟩
      have e0 : a.tmps.getD 19 undef = .bool false := hd 7 _ rfl rfl
      have e1 : a.tmps.getD 26 undef = .bool false := hd 14 _ rfl rfl
      go_simp
      exact ⟨_, rfl, rfl, Below.refl _ _⟩
    · intro a W hR hoff hd
      left
      refine ⟨rfl, ?_⟩
      have e0 : a.tmps.getD 27 undef = .bool false := hd 15 _ rfl rfl
      go_simp
      exact ⟨_, rfl, rfl, Below.refl _ _⟩
    · intro a W hR hoff hd
      left
      have eg : a.tmps.getD 28 undef = .bool false := hd 16 _ rfl rfl
      refine ⟨wanted_of (ops := _) (j := 16) (b := false) rfl rfl rfl eg, ?_⟩
      clear eg
      have e0 : a.tmps.getD 0 undef = .pointer (some ⟨g, 0, none⟩) := hoff.slot 0 (no_dst (by kernel_rfl))
      go_simp
      exact ⟨_, rfl, rfl, Below.refl _ _⟩
    · intro a W hR hoff hd
      left
      have eg : a.tmps.getD 28 undef = .bool false := hd 16 _ rfl rfl
      refine ⟨wanted_of (ops := _) (j := 16) (b := false) rfl rfl rfl eg, ?_⟩
      clear eg
      have e0 : a.tmps.getD 29 undef = .pointer (some ⟨g, 0, none⟩) := hd 17 _ rfl rfl
      have hm := Lib.hid (HM.out.drew.below hR)
      go_simp
      refine (waits_mine hm.out).mono ?_
      rintro e W2 ⟨rfl, rfl⟩
      exact ⟨_, rfl, rfl, Below.refl _ _⟩
    · intro a W hR hoff hd
      left
      have eg : a.tmps.getD 28 undef = .bool false := hd 16 _ rfl rfl
      refine ⟨wanted_of (ops := _) (j := 16) (b := false) rfl rfl rfl eg, ?_⟩
      clear eg
      have e0 : a.tmps.getD 1 undef = .pointer (some ⟨m, 0, none⟩) := hoff.slot 1 (no_dst (by kernel_rfl))
      go_simp
      exact ⟨_, rfl, rfl, Below.refl _ _⟩
    · intro a W hR hoff hd
      left
      have eg : a.tmps.getD 28 undef = .bool false := hd 16 _ rfl rfl
      refine ⟨wanted_of (ops := _) (j := 16) (b := false) rfl rfl rfl eg, ?_⟩
      clear eg
      have e0 : a.tmps.getD 31 undef = .pointer (some ⟨m, 0, none⟩) := hd 19 _ rfl rfl
      go_simp
      exact ⟨_, rfl, rfl, Below.refl _ _⟩
    · intro a W hR hoff hd
      left
      have eg : a.tmps.getD 28 undef = .bool false := hd 16 _ rfl rfl
      refine ⟨wanted_of (ops := _) (j := 16) (b := false) rfl rfl rfl eg, ?_⟩
      clear eg
      have e0 : a.tmps.getD 32 undef = .pointer (some ⟨m, 0, none⟩) := hd 20 _ rfl rfl
      go_simp
      exact ⟨_, rfl, rfl, Below.refl _ _⟩
    · intro a W hR hoff hd
      left
      have eg : a.tmps.getD 28 undef = .bool false := hd 16 _ rfl rfl
      refine ⟨wanted_of (ops := _) (j := 16) (b := false) rfl rfl rfl eg, ?_⟩
      clear eg
      have e0 : a.tmps.getD 33 undef = .pointer (some ⟨m, 2, none⟩) := hd 21 _ rfl rfl
      obtain ⟨_, _, x2, _, _, _⟩ := HC.out W hR
      go_simp
      exact ⟨_, rfl, rfl, Below.refl _ _⟩
    · intro a W hR hoff hd
      left
      have eg : a.tmps.getD 28 undef = .bool false := hd 16 _ rfl rfl
      refine ⟨wanted_of (ops := _) (j := 16) (b := false) rfl rfl rfl eg, ?_⟩
      clear eg
      have e0 : a.tmps.getD 34 undef = .slice A bs.length c := hd 22 _ rfl rfl
      have hbl : (bs.length : Int) = (s.buf.length : Int) := by rw [HLEN.out]
      go_simp
      exact ⟨_, rfl, rfl, Below.refl _ _⟩
    · intro a W hR hoff hd
      left
      have eg : a.tmps.getD 28 undef = .bool false := hd 16 _ rfl rfl
      refine ⟨wanted_of (ops := _) (j := 16) (b := false) rfl rfl rfl eg, ?_⟩
      clear eg
      have e0 : a.tmps.getD 30 undef = .int .i64 (s.buf.length : Int) := hd 18 _ rfl rfl
      have e1 : a.tmps.getD 35 undef = .int .i64 (s.buf.length : Int) := hd 23 _ rfl rfl
      go_simp
      exact ⟨_, rfl, rfl, Below.refl _ _⟩
    · intro a W hR hoff hd
      left
      refine ⟨rfl, ?_⟩
      have e0 : a.tmps.getD 28 undef = .bool false := hd 16 _ rfl rfl
      have e1 : a.tmps.getD 36 undef = .bool false := hd 24 _ rfl rfl
      go_simp
      exact ⟨_, rfl, rfl, Below.refl _ _⟩
  · intro a W hR hoff hd
    have e37 : a.tmps.getD 37 undef = .bool false := hd 25 _ rfl
    have HW := Lib.hid (show Below w.heap.size w W from ((Below.refl _ _).drew).trans hR)
    obtain ⟨ys, hys, ha⟩ := off_form hoff (mask := [false, false, false, false, false, false, false, false, false, false, false, false, true, true, true, true, true, true, true, true, true, true, true, true, true, true, true, true, true, true, true, true, true, true, true, true, true, true, false, false, false, false, false, false, false, false, false, false, false, false, false, false, false, false, false, false, false, false, false, false, false, false, false, false, false, false, false, false, false, false, false, false, false]) (by kernel_rfl)
    rw [hys] at e37
    clear hd hoff hys hR HC
    subst ha
    simp only [fillFrom, Nat.zero_add, Nat.reduceAdd, e37]
    go_wp2_with fail
    go_loopw [7] (fun i wr => ∃ j : Nat, j ≤ 7 ∧ i = .int .i64 ((j : Int) - 1) ∧ Below w.heap.size w wr) (fun i _ => (6 - intOf i).toNat)
    case atStart => exact ⟨0, by omega, by simp, HW.out⟩
    case round =>
      obtain ⟨j, hj, rfl, hbr⟩ := hrel
      have HBR := Lib.hid hbr
      have HMr := Lib.hid (HM.out.below hbr)
      have HRr := Lib.hid (HR.out.below hbr)
      obtain ⟨mp2, q2, bs2, hk2, _⟩ := HRr.out.len
      obtain ⟨A2, c2, k2, Dm2, hm2, _⟩ := hk2.form
      obtain ⟨x0, _, _, _, _, _⟩ := five_cells hm2
      clear hbr hk2 hm2 HW
      by_cases hc : (j : Int) - 1 ≤ (s.last.length : Int) ∧ (j : Int) - 1 ≤ 5
      · obtain ⟨hc1, hc2⟩ := hc
        go_wp2_with fail
        refine (read_same HMr.out _ hb).mono ?_
        rintro e w2 ⟨v2, rfl, A3, n3, c3, l3, rfl, hh3, hl3, hb3⟩
        have HH3 := Lib.hid hh3
        have HB3 := Lib.hid hb3
        have HL3 := Lib.hid hl3
        have HR3 := Lib.hid (HRr.out.below hb3)
        clear hh3 hb3 hl3 x0
        go_wp2_with fail
        refine (rread_same HR3.out _ hb).mono ?_
        rintro e w4 ⟨v4, rfl, A5, n5, c5, l5, rfl, hh5, hl5, hb5⟩
        have cv3 := conv_hold (HH3.out.below hb5)
        have cv5 := conv_hold hh5
        rw [hl5, ← HL3.out] at cv5
        have HB5 := Lib.hid ((HBR.out.trans (HB3.out.mono HBR.out.size)).trans (hb5.mono (Nat.le_trans HBR.out.size HB3.out.size)))
        clear hh5 hl5 hb5 HH3 HL3 HB3
        generalize s.refuse ((j : Int) - 1) = r at *
        go_wp2_with fail
        go_roundw
        case rel => exact ⟨j + 1, by omega, by go_num, HB5.out⟩
        case measure => simp [intOf]; omega
      · by_cases hc1 : (j : Int) - 1 ≤ (s.last.length : Int)
        · have hc2 : ¬ (j : Int) - 1 ≤ 5 := fun h => hc ⟨hc1, h⟩
          clear hc
          go_wp2_with fail
          go_ret
          exact ⟨rfl, HBR.out⟩
        · clear hc
          go_wp2_with fail
          go_ret
          exact ⟨rfl, HBR.out⟩
end Go.Proofs.Ytmajmohnnfjiaaa
