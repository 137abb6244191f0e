/-
  What is proved: the program's journal and the document's, side by side: what is done to one turns nothing of the other. Conditions: numbers are small.
-/
import Derived.Test.YtkghjgpeobacjaaRja
import Derived.Test.YtkghjgpeobacjaaJz
namespace Go.Proofs.Ytkghjgpeobacjaa
open Go.RowKit

/-- the document's disk, of the law's own -/
def RMine (w0 w : World) (m : Nat) (s : D) (u : Nat) : Prop := ∃ mp q bs, Rk w m mp q bs s u ∧ Below w0.heap.size w0 w ∧ ∀ b, RFoot m mp q b → w0.heap.size ≤ b
/-- of the program's disk and journal alone something has turned -/
def OnlyP (w w' : World) : Prop := Chg (fun b => ∃ C t fr, w.heap[b]? = some (.cells C t fr) ∧ (t = 70 ∨ t = 86 ∨ t = 88 ∨ t = 78)) w w'
/-- of the document's disk and journal alone something has turned -/
def OnlyR (w w' : World) : Prop := Chg (fun b => (∃ C t fr, w.heap[b]? = some (.cells C t fr) ∧ (t = 53 ∨ t = 90 ∨ t = 44)) ∨ ∃ es ck, w.heap[b]? = some (.map es ck)) w w'
/-- steps of the law's own are kept -/
def Kept39 (w w' : World) : Prop := ∀ (b : Nat) (C : Array Value) (fr : Nat × Nat), w.heap[b]? = some (.cells C 39 fr) → w'.heap[b]? = some (.cells C 39 fr)
section
variable {w0 w w' : World} {g m j n : Nat} {s s' : D} {u u' : Nat}
theorem RMine.b (h : RMine w0 w m s u) : Below w0.heap.size w0 w := by obtain ⟨_, _, _, _, hb, _⟩ := h; exact hb
theorem RMine.below (h : RMine w0 w m s u) (hb : Below w.heap.size w w') : RMine w0 w' m s u := by
  obtain ⟨mp, q, bs, hr, hb0, hf⟩ := h
  exact ⟨mp, q, bs, hr.below hb, hb0.trans (hb.mono hb0.size), hf⟩
theorem OnlyP.keep {b : Nat} {C : Array Value} {t : TypeId} {fr : Nat × Nat} (h : OnlyP w w') (hb : w.heap[b]? = some (.cells C t fr)) (h1 : t ≠ 70) (h2 : t ≠ 86) (h3 : t ≠ 88) (h4 : t ≠ 78) : w'.heap[b]? = some (.cells C t fr) := by
  rw [h.block b (Array.getElem?_eq_some_iff.1 hb).1]
  · exact hb
  · rintro ⟨C', t', fr', e, ht⟩
    rw [hb] at e
    injection e with e
    injection e with _ e
    subst e
    rcases ht with ht | ht | ht | ht <;> contradiction
theorem OnlyP.keepMap {b : Nat} {es : Array MapEntry} {ck : Nat} (h : OnlyP w w') (hb : w.heap[b]? = some (.map es ck)) : w'.heap[b]? = some (.map es ck) := by
  rw [h.block b (Array.getElem?_eq_some_iff.1 hb).1]
  · exact hb
  · rintro ⟨C', t', fr', e, _⟩
    rw [hb] at e
    injection e with e
    cases e
theorem OnlyR.keep {b : Nat} {C : Array Value} {t : TypeId} {fr : Nat × Nat} (h : OnlyR w w') (hb : w.heap[b]? = some (.cells C t fr)) (h1 : t ≠ 53) (h2 : t ≠ 90) (h3 : t ≠ 44) : w'.heap[b]? = some (.cells C t fr) := by
  rw [h.block b (Array.getElem?_eq_some_iff.1 hb).1]
  · exact hb
  · rintro (⟨C', t', fr', e, ht⟩ | ⟨es, ck, e⟩)
    · rw [hb] at e
      injection e with e
      injection e with _ e
      subst e
      rcases ht with ht | ht | ht <;> contradiction
    · rw [hb] at e
      injection e with e
      cases e
theorem OnlyP.k39 (h : OnlyP w w') : Kept39 w w' := fun _ _ _ hb => h.keep hb (by decide) (by decide) (by decide) (by decide)
theorem OnlyR.k39 (h : OnlyR w w') : Kept39 w w' := fun _ _ _ hb => h.keep hb (by decide) (by decide) (by decide)
theorem Kept39.below (h : Below w.heap.size w w') : Kept39 w w' := fun b _ _ hb => (h.block b (Array.getElem?_eq_some_iff.1 hb).1).trans hb
theorem RMine.only (h : RMine w0 w m s u) (ho : OnlyP w w') (hb : Below w0.heap.size w0 w') : RMine w0 w' m s u := by
  obtain ⟨mp, q, bs, hk, hb0, hf⟩ := h
  have hk' := hk
  obtain ⟨ok, ⟨v, k, Dm, hm, hM, hn, hI, hO, hB, hq⟩, hbuf, hdat⟩ := hk
  refine ⟨mp, q, bs, hk'.frame (fun b hfb => ?_) (fun x hx => ?_), hb, hf⟩
  · rcases hfb with rfl | rfl | hfb
    · rw [hm]
      exact ho.keep hm (by decide) (by decide) (by decide) (by decide)
    · obtain ⟨es, clock, hme, _⟩ := hM
      rw [hme]
      exact ho.keepMap hme
    · rw [← hq] at hfb
      obtain ⟨C', hC'⟩ := own_tag hB hfb
      rw [hC']
      exact ho.keep hC' (by decide) (by decide) (by decide) (by decide)
  · rw [hdat x hx]
    exact ho.keep (hdat x hx) (by decide) (by decide) (by decide) (by decide)
theorem Mine.only (h : Mine w0 w g s) (ho : OnlyR w w') (hb : Below w0.heap.size w0 w') : Mine w0 w' g s := by
  obtain ⟨L, q, hd, hb0, hf⟩ := h
  refine ⟨L, q, hd.frame fun b hfb => ?_, hb, hf⟩
  obtain ⟨C, t, fr, hC, ht⟩ := hd.type b hfb
  rw [hC]
  exact ho.keep hC (by rcases ht with rfl | rfl | rfl <;> decide) (by rcases ht with rfl | rfl | rfl <;> decide) (by rcases ht with rfl | rfl | rfl <;> decide)
theorem onlyP_after {L : Nat} {q : Option Nat} (hd : Dk w g L q s) (h : After w w' g L q s') : OnlyP w w' := by
  obtain ⟨q', _, hc, _⟩ := h
  refine hc.mono fun b hb => ?_
  obtain ⟨C, t, fr, hC, ht⟩ := hd.type b hb
  exact ⟨C, t, fr, hC, by rcases ht with h | h | h <;> simp [h]⟩
theorem onlyR_after {mp : Nat} {q : Option Nat} {bs : List RB} (hk : Rk w m mp q bs s u) (h : Chg (fun b => RFoot m mp q b ∨ b = n) w w') (hn : ∃ C fr, w.heap[n]? = some (.cells C 44 fr)) : OnlyR w w' := by
  refine h.mono fun b hb => ?_
  obtain ⟨ok, ⟨v, k, Dm, hm, hM, _, hI, hO, hB, hq⟩, hbuf, hdat⟩ := hk
  rcases hb with (rfl | rfl | hb) | rfl
  · exact .inl ⟨_, _, _, hm, .inl rfl⟩
  · obtain ⟨es, clock, hme, _⟩ := hM
    exact .inr ⟨es, clock, hme⟩
  · rw [← hq] at hb
    obtain ⟨C', hC'⟩ := own_tag hB hb
    exact .inl ⟨_, _, _, hC', .inr (.inl rfl)⟩
  · obtain ⟨C, fr, hC⟩ := hn
    exact .inl ⟨_, _, _, hC, .inr (.inr rfl)⟩
end
/-- both journals, of the law's own -/
structure PJ (w0 w : World) (j g n m : Nat) (x y : JS) (u : Nat) : Prop where
  p : JM w0 w j g x
  r : RMine w0 w m y.d u
  rj : RJn w n m (y.fr : Int) (y.to : Int) (y.en : Int) (y.cn : Int)
  lo : w0.heap.size ≤ n
section
variable {w0 w w' : World} {g m j n : Nat} {x y x' y' : JS} {u u' : Nat}
theorem PJ.below (h : PJ w0 w j g n m x y u) (hb : Below w.heap.size w w') : PJ w0 w' j g n m x y u :=
  ⟨h.p.below hb, h.r.below hb, (hb.block n (Array.getElem?_eq_some_iff.1 h.rj).1).trans h.rj, h.lo⟩
theorem PJ.b (h : PJ w0 w j g n m x y u) : Below w0.heap.size w0 w := h.p.b
theorem PJ.prog (h : PJ w0 w j g n m x y u) (hp : JM w0 w' j g x') (ho : OnlyP w w') : PJ w0 w' j g n m x' y u ∧ Kept39 w w' :=
  ⟨⟨hp, h.r.only ho hp.b, ho.keep h.rj (by decide) (by decide) (by decide) (by decide), h.lo⟩, ho.k39⟩
theorem PJ.doc (h : PJ w0 w j g n m x y u) {mp : Nat} {q : Option Nat} {bs : List RB} (hk : Rk w m mp q bs y.d u) (hf : ∀ b, RFoot m mp q b → w0.heap.size ≤ b) (ha : RJAfter w w' n m mp q (y'.fr : Int) (y'.to : Int) (y'.en : Int) (y'.cn : Int) y'.d u') : PJ w0 w' j g n m x y' u' ∧ Kept39 w w' := by
  obtain ⟨q', bs', hk', hq, hc, hj⟩ := ha
  have ho := onlyR_after hk hc ⟨_, _, h.rj⟩
  have hb : Below w0.heap.size w0 w' := Chg.below h.p.b hc h.p.b.size (fun b hb => by
    rcases hb with hb | rfl
    · exact hf b hb
    · exact h.lo)
  refine ⟨⟨⟨h.p.1.only ho hb, ho.keep h.p.2.1 (by decide) (by decide) (by decide), h.p.2.2⟩, ⟨mp, q', bs', hk', hb, ?_⟩, hj, h.lo⟩, ho.k39⟩
  rintro b (e | e | e)
  · exact hf b (.inl e)
  · exact hf b (.inr (.inl e))
  · rcases hq b e with e | e
    · exact hf b (.inr (.inr e))
    · have := h.p.b.size; omega
theorem RMine.len (h : RMine w0 w m y.d u) : ∃ mp q bs, Rk w m mp q bs y.d u ∧ (∀ b, RFoot m mp q b → w0.heap.size ≤ b) ∧ bs.length = y.d.buf.length := by
  obtain ⟨mp, q, bs, hr, _, hf⟩ := h
  exact ⟨mp, q, bs, hr, hf, by rw [hr.buf]; simp [rbuf]⟩
theorem rj_of_after {mp : Nat} {q : Option Nat} {bs : List RB} (hk : Rk w m mp q bs y.d u) (hj : RJn w n m (y.fr : Int) (y.to : Int) (y.en : Int) (y.cn : Int)) {d' : D} (h : RAfter w w' m mp q d' u') : RJAfter w w' n m mp q (y.fr : Int) (y.to : Int) (y.en : Int) (y.cn : Int) d' u' := by
  obtain ⟨q', bs', hk', hc, hq⟩ := h
  exact ⟨q', bs', hk', hq, hc.mono (fun _ h => .inl h), hk.keep44 hc hj (by decide) (by decide)⟩
theorem RMine.more (h : RMine w0 w m y.d u) (hu : u ≤ u') : RMine w0 w m y.d u' := by
  obtain ⟨mp, q, bs, hk, hb, hf⟩ := h
  exact ⟨mp, q, bs, hk.more hu, hb, hf⟩
theorem PJ.more (h : PJ w0 w j g n m x y u) (hu : u ≤ u') : PJ w0 w j g n m x y u' := ⟨h.p, h.r.more hu, h.rj, h.lo⟩

/-! ### the program's calls -/
theorem onlyP_j {L : Nat} {q : Option Nat} {f t e0 c0 e1 c1 : Int} {s s' : D} (hd : Dk w g L q s) (hj : Jn w j g f t e0 c0) (h : JAfter w w' j g L q f t e1 c1 s') : OnlyP w w' := by
  obtain ⟨q', _, _, hc, _⟩ := h
  refine hc.mono fun b hb => ?_
  rcases hb with hb | rfl
  · obtain ⟨C, t, fr, hC, ht⟩ := hd.type b hb
    exact ⟨C, t, fr, hC, by rcases ht with h | h | h <;> simp [h]⟩
  · exact ⟨_, _, _, hj, by simp⟩
theorem OnlyP.below (hb : Below w.heap.size w w') : OnlyP w w' := Chg.of_below hb
theorem append_only (h : JM w0 w j g x) (hx : x.Ok) (A : Option Addr) (k c : Nat) (b : List UInt8) (hb : Hold w A k c b) (hm : k ≤ 140737488355328) (hbuf : x.d.buf.length ≤ 1099511627776) :
    Calls Try.prog 13 #[.pointer (some ⟨j, 0, none⟩), .slice A k c] w fun e w' => e = .returned (.int .i64 (x.err b)) ∧ JM w0 w' j g (x.app b) ∧ OnlyP w w' := by
  have hl := hb.1
  obtain ⟨hM, hj, h0⟩ := h
  have hM' := hM
  obtain ⟨L, q, hd, hb0, hf⟩ := hM
  have hmost := hd.ok.most
  obtain ⟨a1, a2, a3, a4⟩ := hx
  by_cases h1 : 1048576 < b.length
  · refine (append_long w j A k c (by omega) hm).mono ?_
    rintro e w' ⟨rfl, rfl⟩
    unfold JS.err JS.app
    rw [if_pos h1, if_pos h1]
    exact ⟨rfl, ⟨hM', hj, h0⟩, Chg.refl _ _⟩
  · by_cases h2 : 64 * (x.to - x.fr) < x.en + 16 + b.length
    · refine (append_full w j g _ _ _ _ A k c (by omega) (by omega) (by omega) (by omega) (by omega) (by omega) (by omega) (by omega) hj).mono ?_
      rintro e w' ⟨rfl, hbw⟩
      unfold JS.err JS.app
      rw [if_neg h1, if_neg h1, if_pos h2, if_pos h2]
      exact ⟨rfl, JM.below ⟨hM', hj, h0⟩ hbw, Chg.of_below hbw⟩
    · refine (append_fits w j g L q x.d hd _ _ _ _ A k c b hb (by omega) (by omega) (by omega) (by omega) (by omega) (by omega) (by omega) (by omega) (by omega) (by omega) hj (x.fr + x.en / 64) (x.en % 64) (by omega) (by omega) (by omega) hbuf).mono ?_
      intro e w' hp
      unfold AppPost at hp
      unfold JS.err JS.app
      rw [if_neg h1, if_neg h1, if_neg h2, if_neg h2]
      by_cases h3 : x.d.left = 0
      · rw [if_pos h3] at hp
        rw [if_pos h3, if_pos h3]
        exact ⟨hp.1, (JM.jafter hd hb0 hf h0 hj hp.2).1, onlyP_j hd hj hp.2⟩
      · rw [if_neg h3] at hp
        rw [if_neg h3, if_neg h3]
        have ho := onlyP_j hd hj hp.2
        refine ⟨hp.1, ?_⟩
        have hp2 := hp.2
        show JM w0 w' j g (if (x.d.appW (x.fr + x.en / 64) (x.en % 64) b).fErr = 0 then ⟨_, _, _, _, _⟩ else ⟨_, _, _, _, _⟩) ∧ _
        by_cases h4 : (x.d.appW (x.fr + x.en / 64) (x.en % 64) b).fErr = 0
        · rw [if_pos h4, if_pos h4] at hp2
          rw [if_pos h4]
          have e1 : (x.en : Int) + 16 + k = ((x.en + 16 + b.length : Nat) : Int) := by omega
          have e2 : (x.cn : Int) + 1 = ((x.cn + 1 : Nat) : Int) := by omega
          rw [e1, e2] at hp2
          exact ⟨(JM.jafter hd hb0 hf h0 hj hp2).1, ho⟩
        · rw [if_neg h4, if_neg h4] at hp2
          rw [if_neg h4]
          exact ⟨(JM.jafter hd hb0 hf h0 hj hp2).1, ho⟩
theorem pj_append (h : PJ w0 w j g n m x y u) (hx : x.Ok) (A : Option Addr) (k c : Nat) (b : List UInt8) (hb : Hold w A k c b) (hm : k ≤ 140737488355328) (hbuf : x.d.buf.length ≤ 1099511627776) :
    Calls Try.prog 13 #[.pointer (some ⟨j, 0, none⟩), .slice A k c] w fun e w' => e = .returned (.int .i64 (x.err b)) ∧ PJ w0 w' j g n m (x.app b) y u ∧ Kept39 w w' :=
  (append_only h.p hx A k c b hb hm hbuf).mono fun _ _ ⟨h1, h2, h3⟩ => ⟨h1, h.prog h2 h3⟩
theorem pj_write (h : PJ w0 w j g n m x y u) (i : Int) (A : Option Addr) (k c : Nat) (l : List UInt8) (hl : Hold w A k c l) (hn : k ≤ 281474976710656) (hb : x.d.buf.length ≤ 1048576) :
    Calls Try.prog 20 #[.pointer (some ⟨g, 0, none⟩), .int .i64 i, .slice A k c] w fun e w' => e = .returned (.int .i64 (x.d.wErr i k)) ∧ PJ w0 w' j g n m ⟨x.d.wSt i l, x.fr, x.to, x.en, x.cn⟩ y u ∧ Kept39 w w' := by
  have h' := h
  obtain ⟨⟨L, q, hd, hb0, hf⟩, hj, h0⟩ := h.p
  exact (write_any w g L q x.d hd i A k c l hl hn (by omega)).mono fun e w' ⟨h1, h2⟩ => ⟨h1, h'.prog (JM.disk hd hb0 hf hj h0 h2).1 (onlyP_after hd h2)⟩
theorem pj_arm (h : PJ w0 w j g n m x y u) (i : Int) (h1 : -9223372036854775808 ≤ i) (h2 : i ≤ 9223372036854775807) : Calls Try.prog 15 #[.pointer (some ⟨g, 0, none⟩), .int .i64 i] w fun e w' => e = .returned (.tuple #[]) ∧ PJ w0 w' j g n m ⟨x.d.aSt i, x.fr, x.to, x.en, x.cn⟩ y u ∧ Kept39 w w' := by
  have h' := h
  obtain ⟨⟨L, q, hd, hb0, hf⟩, hj, h0⟩ := h.p
  exact (arm_any w g L q x.d hd i h1 h2).mono fun e w' ⟨h1, h2⟩ => ⟨h1, h'.prog (JM.disk hd hb0 hf hj h0 h2).1 (onlyP_after hd h2)⟩
theorem pj_crash (h : PJ w0 w j g n m x y u) (k t : Int) (hn : x.d.buf.length ≤ 1048576) : Calls Try.prog 17 #[.pointer (some ⟨g, 0, none⟩), .int .i64 k, .int .i64 t] w fun e w' => e = .returned (.tuple #[]) ∧ PJ w0 w' j g n m ⟨x.d.cSt k t, x.fr, x.to, x.en, x.cn⟩ y u ∧ Kept39 w w' := by
  have h' := h
  obtain ⟨⟨L, q, hd, hb0, hf⟩, hj, h0⟩ := h.p
  exact (crash_any w g L q x.d hd k t (by omega)).mono fun e w' ⟨h1, h2⟩ => ⟨h1, h'.prog (JM.disk hd hb0 hf hj h0 h2).1 (onlyP_after hd h2)⟩

/-! ### the document's calls -/
theorem pj_rwrite (h : PJ w0 w j g n m x y u) (i : Int) (A : Option Addr) (k c : Nat) (l : List UInt8) (hl : Hold w A k c l) (hb : y.d.buf.length ≤ 1048576) :
    Calls Try.prog 21 #[.pointer (some ⟨m, 0, none⟩), .int .i64 i, .slice A k c] w fun e w' => e = .returned (.int .i64 (y.d.wErr i k)) ∧ PJ w0 w' j g n m x ⟨y.d.wSt i l, y.fr, y.to, y.en, y.cn⟩ u ∧ Kept39 w w' := by
  obtain ⟨mp, q, bs, hk, hf, hlen⟩ := h.r.len
  exact (rwrite_any w m mp q bs y.d u hk i A k c l hl (by omega)).mono fun e w' ⟨h1, h2⟩ => ⟨h1, h.doc hk hf (rj_of_after hk h.rj h2)⟩
theorem pj_rarm (h : PJ w0 w j g n m x y u) (i : Int) (h1 : -9223372036854775808 ≤ i) (h2 : i ≤ 9223372036854775807) : Calls Try.prog 16 #[.pointer (some ⟨m, 0, none⟩), .int .i64 i] w fun e w' => e = .returned (.tuple #[]) ∧ PJ w0 w' j g n m x ⟨y.d.aSt i, y.fr, y.to, y.en, y.cn⟩ u ∧ Kept39 w w' := by
  obtain ⟨mp, q, bs, hk, hf, hlen⟩ := h.r.len
  exact (rarm_any w m mp q bs y.d u hk i h1 h2).mono fun e w' ⟨h1, h2⟩ => ⟨h1, h.doc hk hf (rj_of_after hk h.rj h2)⟩
theorem pj_rcrash (h : PJ w0 w j g n m x y u) (k t : Int) (hb : y.d.buf.length ≤ 1048576) (hu : u ≤ 4611686018427387904) : Calls Try.prog 18 #[.pointer (some ⟨m, 0, none⟩), .int .i64 k, .int .i64 t] w fun e w' => e = .returned (.tuple #[]) ∧ PJ w0 w' j g n m x ⟨y.d.cSt k t, y.fr, y.to, y.en, y.cn⟩ (u + 1048577) ∧ Kept39 w w' := by
  obtain ⟨mp, q, bs, hk, hf, hlen⟩ := h.r.len
  exact (rcrash_any w m mp q bs y.d u hk k t (by omega) hu).mono fun e w' ⟨h1, h2⟩ => ⟨h1, h.doc hk hf (rj_of_after hk h.rj (h2.more (by omega)))⟩
theorem pj_rappend (h : PJ w0 w j g n m x y u) (hy : y.Ok) (A : Option Addr) (k c : Nat) (b : List UInt8) (hb : Hold w A k c b) (hm : k ≤ 140737488355328) (hbuf : y.d.buf.length + 65536 ≤ 1048576) (hu : u ≤ 4611686018427387904) :
    Calls Try.prog 14 #[.pointer (some ⟨n, 0, none⟩), .slice A k c] w fun e w' => e = .returned (.int .i64 (y.err b)) ∧ PJ w0 w' j g n m x (y.app b) (u + 1048577) ∧ Kept39 w w' := by
  have hl := hb.1
  obtain ⟨mp, q, bs, hk, hf, hlen⟩ := h.r.len
  have hmost := hk.ok.most
  obtain ⟨a1, a2, a3, a4⟩ := hy
  have same : ∀ w', Below w.heap.size w w' → PJ w0 w' j g n m x y (u + 1048577) ∧ Kept39 w w' := fun w' hb => ⟨(h.below hb).more (by omega), Kept39.below hb⟩
  by_cases h1 : 1048576 < b.length
  · refine (rappend_long w n A k c (by omega) hm).mono ?_
    rintro e w' ⟨rfl, rfl⟩
    unfold JS.err JS.app
    rw [if_pos h1, if_pos h1]
    exact ⟨rfl, same _ (Below.refl _ _)⟩
  · by_cases h2 : 64 * (y.to - y.fr) < y.en + 16 + b.length
    · refine (rappend_full w n m _ _ _ _ h.rj A k c (by omega) (by omega) (by omega) (by omega) (by omega) (by omega) (by omega)).mono ?_
      rintro e w' ⟨rfl, hbw⟩
      unfold JS.err JS.app
      rw [if_neg h1, if_neg h1, if_pos h2, if_pos h2]
      exact ⟨rfl, same _ hbw⟩
    · by_cases h3 : y.d.left = 0
      · refine (rappend_down w n m mp q bs y.d u hk _ _ _ _ h.rj A k c (by omega) (by omega) (by omega) (by omega) (by omega) (by omega) (by omega) h3).mono ?_
        rintro e w' ⟨rfl, hbw⟩
        unfold JS.err JS.app
        rw [if_neg h1, if_neg h1, if_neg h2, if_neg h2, if_pos h3, if_pos h3]
        exact ⟨rfl, same _ hbw⟩
      · refine (rappend_up w n m mp q bs y.d u hk y.fr y.to y.en y.cn h.rj A k c b hb (by omega) a1 a2 (by omega) (by omega) h3 hbuf hu).mono ?_
        rintro e w' ⟨rfl, hp2⟩
        unfold JS.err JS.app
        rw [if_neg h1, if_neg h1, if_neg h2, if_neg h2, if_neg h3, if_neg h3]
        refine ⟨rfl, ?_⟩
        show PJ w0 w' j g n m x (if (y.d.appW (y.fr + y.en / 64) (y.en % 64) b).fErr = 0 then ⟨_, _, _, _, _⟩ else ⟨_, _, _, _, _⟩) _ ∧ _
        by_cases h4 : (y.d.appW (y.fr + y.en / 64) (y.en % 64) b).fErr = 0
        · rw [if_pos h4, if_pos h4] at hp2
          rw [if_pos h4]
          have e2 : (y.cn : Int) + 1 = ((y.cn + 1 : Nat) : Int) := by omega
          have e1 : y.en + 16 + k = y.en + 16 + b.length := by omega
          rw [e2, e1] at hp2
          obtain ⟨r1, r2⟩ := h.doc (y' := ⟨(y.wr b).fSt, y.fr, y.to, y.en + 16 + b.length, y.cn + 1⟩) hk hf hp2
          exact ⟨r1.more (by omega), r2⟩
        · rw [if_neg h4, if_neg h4] at hp2
          rw [if_neg h4]
          obtain ⟨r1, r2⟩ := h.doc (y' := ⟨(y.wr b).fSt, y.fr, y.to, y.en, y.cn⟩) hk hf hp2
          exact ⟨r1.more (by omega), r2⟩
/-! ### what both tell -/
def Same2 (w : World) (s : D) (i : Int) (v : Value) (w' : World) : Prop := ∃ A k c l, v = .tuple #[.slice A k c, .int .i64 (s.refuse i)] ∧ Hold w' A k c l ∧ l = (if s.refuse i = 0 then s.told i.toNat else []) ∧ Below w.heap.size w w'
theorem read_same (h : Mine w0 w g x.d) (i : Int) (hb : x.d.buf.length ≤ 1048576) : Calls Try.prog 26 #[.pointer (some ⟨g, 0, none⟩), .int .i64 i] w fun e w' => ∃ v, e = .returned v ∧ Same2 w x.d i v w' := by
  obtain ⟨L, q, hd, hb0, hf⟩ := h
  refine (read_any w g L q x.d hd i (by omega)).mono fun e w' hp => ?_
  unfold ReadPost at hp
  by_cases hr : x.d.refuse i = 0
  · rw [if_pos hr] at hp
    obtain ⟨k, h1, h2, h3, h4⟩ := hp
    obtain ⟨_, hi1, hi2⟩ := refuse_zero hr
    have hl := hd.ok.told_len (i := i.toNat) (by omega)
    exact ⟨_, h1, _, _, _, _, by rw [hr], Hold.block h3 64 hl.symm, by rw [if_pos hr], h4⟩
  · rw [if_neg hr] at hp
    obtain ⟨h1, rfl⟩ := hp
    exact ⟨_, h1, _, _, _, _, rfl, Hold.nil _, by rw [if_neg hr], Below.refl _ _⟩
theorem rread_same (h : RMine w0 w m y.d u) (i : Int) (hb : y.d.buf.length ≤ 1048576) : Calls Try.prog 27 #[.pointer (some ⟨m, 0, none⟩), .int .i64 i] w fun e w' => ∃ v, e = .returned v ∧ Same2 w y.d i v w' := by
  obtain ⟨mp, q, bs, hk, hf, hln⟩ := h.len
  refine (rread_any w m mp q bs y.d u hk i (by omega)).mono fun e w' hp => ?_
  unfold RReadPost at hp
  by_cases hr : y.d.refuse i = 0
  · rw [if_pos hr] at hp
    obtain ⟨k, h1, h2, h3, h4⟩ := hp
    obtain ⟨_, hi1, hi2⟩ := refuse_zero hr
    have hl := hk.ok.told_len (i := i.toNat) (by omega)
    exact ⟨_, h1, _, _, _, _, by rw [hr], Hold.block h3 64 hl.symm, by rw [if_pos hr], h4⟩
  · rw [if_neg hr] at hp
    obtain ⟨h1, rfl⟩ := hp
    exact ⟨_, h1, _, _, _, _, rfl, Hold.nil _, by rw [if_neg hr], Below.refl _ _⟩
end
end Go.Proofs.Ytkghjgpeobacjaa
