/-
  What is proved: what a law's own disk and journal have behind each call, told by lists; nothing that was there when the law began has turned, nor what is of other types.
-/
import Derived.Test.YtbfhlleipeipbaaJo
import Derived.Laws.BytesArg
namespace Go.Proofs.Ytbfhlleipeipbaa
open Go.RowKit

/-- a journal and its disk, as lists -/
structure JS where
  d : D
  fr : Nat
  to : Nat
  en : Nat
  cn : Nat
structure JS.Ok (x : JS) : Prop where
  ar : x.fr ≤ x.to
  dk : x.to ≤ x.d.last.length
  lo : x.en ≤ 64 * (x.to - x.fr)
  ct : 16 * x.cn ≤ x.en
def JS.wr (x : JS) (b : List UInt8) : D := x.d.appW (x.fr + x.en / 64) (x.en % 64) b
def JS.err (x : JS) (b : List UInt8) : Int :=
  if 1048576 < b.length then 3 else if 64 * (x.to - x.fr) < x.en + 16 + b.length then 51 else if x.d.left = 0 then 32 else (x.wr b).fErr
def JS.app (x : JS) (b : List UInt8) : JS :=
  if 1048576 < b.length then x else if 64 * (x.to - x.fr) < x.en + 16 + b.length then x else if x.d.left = 0 then x
  else if (x.wr b).fErr = 0 then ⟨(x.wr b).fSt, x.fr, x.to, x.en + 16 + b.length, x.cn + 1⟩ else ⟨(x.wr b).fSt, x.fr, x.to, x.en, x.cn⟩

/-- a disk of the law's own (w0: when the law began) -/
def Mine (w0 w : World) (g : Nat) (s : D) : Prop := ∃ L q, Dk w g L q s ∧ Below w0.heap.size w0 w ∧ ∀ b, Foot g L q b → w0.heap.size ≤ b
/-- a disk and a journal of the law's own -/
def JM (w0 w : World) (j g : Nat) (x : JS) : Prop := Mine w0 w g x.d ∧ Jn w j g ((x.fr : Int) * 64) ((x.to : Int) * 64) (x.en : Int) (x.cn : Int) ∧ w0.heap.size ≤ j
/-- what is of other types than a disk's and a journal's blocks is as it was -/
def Others (w w' : World) : Prop := w.heap.size ≤ w'.heap.size ∧ ∀ (b : Nat) (C : Array Value) (t : TypeId) (fr : Nat × Nat), w.heap[b]? = some (.cells C t fr) → t ≠ 61 → t ≠ 88 → t ≠ 90 → t ≠ 76 → w'.heap[b]? = some (.cells C t fr)
theorem Others.refl (w : World) : Others w w := ⟨Nat.le_refl _, fun _ _ _ _ h _ _ _ _ => h⟩
theorem Others.trans {a b c : World} (h : Others a b) (k : Others b c) : Others a c := ⟨Nat.le_trans h.1 k.1, fun x C t fr hx h1 h2 h3 h4 => k.2 x C t fr (h.2 x C t fr hx h1 h2 h3 h4) h1 h2 h3 h4⟩
theorem Others.below {w w' : World} (hb : Below w.heap.size w w') : Others w w' := ⟨hb.size, fun b C t fr h _ _ _ _ => by rw [hb.block b (Array.getElem?_eq_some_iff.1 h).1]; exact h⟩
section
variable {w0 w w' : World} {g j : Nat} {s s' : D} {x : JS}
theorem Mine.b (h : Mine w0 w g s) : Below w0.heap.size w0 w := by obtain ⟨L, q, _, hb, _⟩ := h; exact hb
theorem Mine.ok (h : Mine w0 w g s) : s.Ok := by obtain ⟨L, q, hd, _⟩ := h; exact hd.ok
theorem Mine.below (h : Mine w0 w g s) (hb : Below w.heap.size w w') : Mine w0 w' g s := by
  obtain ⟨L, q, hd, hb0, hf⟩ := h
  exact ⟨L, q, hd.below hb, hb0.trans (hb.mono hb0.size), hf⟩
theorem Mine.alloc (h : Mine w0 w g s) (o : Obj) : Mine w0 (w.alloc o) g s := h.below ((Below.refl _ _).alloc (Nat.le_refl _) o)
theorem Jn.below {f t e c : Int} (h : Jn w j g f t e c) (hb : Below w.heap.size w w') : Jn w' j g f t e c := (hb.block j (Array.getElem?_eq_some_iff.1 h).1).trans h
theorem JM.below (h : JM w0 w j g x) (hb : Below w.heap.size w w') : JM w0 w' j g x := ⟨h.1.below hb, h.2.1.below hb, h.2.2⟩
theorem JM.alloc (h : JM w0 w j g x) (o : Obj) : JM w0 (w.alloc o) j g x := h.below ((Below.refl _ _).alloc (Nat.le_refl _) o)
theorem JM.drew (h : JM w0 w j g x) : JM w0 w.drew j g x := h.below ((Below.refl _ _).drew)
theorem JM.b (h : JM w0 w j g x) : Below w0.heap.size w0 w := h.1.b
/-- a block of the law's own, of another type, is written -/
theorem Mine.frame (h : Mine w0 w g s) {S : Nat → Prop} (hc : Chg S w w') (hS : ∀ b, S b → w0.heap.size ≤ b) (hO : ∀ b, S b → ∃ C t fr, w.heap[b]? = some (.cells C t fr) ∧ t ≠ 61 ∧ t ≠ 88 ∧ t ≠ 90) : Mine w0 w' g s := by
  obtain ⟨L, q, hd, hb0, hf⟩ := h
  refine ⟨L, q, hd.frame fun b hfb => hc.block b (hd.lt b hfb) (fun e => ?_), Chg.below hb0 hc hb0.size hS, hf⟩
  obtain ⟨C, t, fr, hC, h1, h2, h3⟩ := hO b e
  exact hd.other hC h1 h2 h3 hfb
theorem JM.frame (h : JM w0 w j g x) {S : Nat → Prop} (hc : Chg S w w') (hS : ∀ b, S b → w0.heap.size ≤ b) (hO : ∀ b, S b → ∃ C t fr, w.heap[b]? = some (.cells C t fr) ∧ t ≠ 61 ∧ t ≠ 88 ∧ t ≠ 90 ∧ t ≠ 76) : JM w0 w' j g x := by
  refine ⟨h.1.frame hc hS fun b hb => ?_, ?_, h.2.2⟩
  · obtain ⟨C, t, fr, hC, h1, h2, h3, _⟩ := hO b hb
    exact ⟨C, t, fr, hC, h1, h2, h3⟩
  · have hj := h.2.1
    refine (hc.block j (Array.getElem?_eq_some_iff.1 hj).1 fun hs => ?_).trans hj
    obtain ⟨C, t, fr, hC, _, _, _, h4⟩ := hO j hs
    unfold Jn at hj
    rw [hC] at hj
    injection hj with hj
    injection hj with _ hj
    exact h4 hj
theorem Mine.after {L : Nat} {q : Option Nat} (hd : Dk w g L q s) (hb0 : Below w0.heap.size w0 w) (hf : ∀ b, Foot g L q b → w0.heap.size ≤ b) (h : After w w' g L q s') : Mine w0 w' g s' ∧ Others w w' := by
  obtain ⟨q', hd', hc, hq⟩ := h
  refine ⟨⟨L, q', hd', Chg.below hb0 hc hb0.size hf, ?_⟩, hc.size, fun b C t fr hb h1 h2 h3 _ => ?_⟩
  · rintro b (rfl | rfl | hb)
    · exact hf b (.inl rfl)
    · exact hf b (.inr (.inl rfl))
    · rcases hq b hb with hb | hb
      · exact hf b (.inr (.inr hb))
      · have := hb0.size; omega
  · rw [hc.block b (Array.getElem?_eq_some_iff.1 hb).1 (hd.other hb h1 h2 h3)]
    exact hb
/-- the disk alone turns -/
theorem JM.disk {L : Nat} {q : Option Nat} {d' : D} (hd : Dk w g L q x.d) (hb0 : Below w0.heap.size w0 w) (hf : ∀ b, Foot g L q b → w0.heap.size ≤ b) (hj : Jn w j g ((x.fr : Int) * 64) ((x.to : Int) * 64) (x.en : Int) (x.cn : Int)) (h0 : w0.heap.size ≤ j) (h : After w w' g L q d') : JM w0 w' j g ⟨d', x.fr, x.to, x.en, x.cn⟩ ∧ Others w w' := by
  obtain ⟨h1, h2⟩ := Mine.after hd hb0 hf h
  exact ⟨⟨h1, h.keep hd hj (by decide) (by decide) (by decide), h0⟩, h2⟩
theorem JM.jafter {L : Nat} {q : Option Nat} {d' : D} {en' cn' : Nat} (hd : Dk w g L q s) (hb0 : Below w0.heap.size w0 w) (hf : ∀ b, Foot g L q b → w0.heap.size ≤ b) (h0 : w0.heap.size ≤ j) {fr to : Nat} {e0 c0 : Int} (hj : Jn w j g ((fr : Int) * 64) ((to : Int) * 64) e0 c0)
    (h : JAfter w w' j g L q ((fr : Int) * 64) ((to : Int) * 64) (en' : Int) (cn' : Int) d') : JM w0 w' j g ⟨d', fr, to, en', cn'⟩ ∧ Others w w' := by
  obtain ⟨q', hd', hq, hc, hj'⟩ := h
  refine ⟨⟨⟨L, q', hd', Chg.below hb0 hc hb0.size ?_, ?_⟩, hj', h0⟩, hc.size, fun b C t fr hb h1 h2 h3 h4 => ?_⟩
  · rintro b (hb | rfl)
    · exact hf b hb
    · exact h0
  · rintro b (rfl | rfl | hb)
    · exact hf b (.inl rfl)
    · exact hf b (.inr (.inl rfl))
    · rcases hq b hb with hb | hb
      · exact hf b (.inr (.inr hb))
      · have := hb0.size; omega
  · rw [hc.block b (Array.getElem?_eq_some_iff.1 hb).1 ?_]
    · exact hb
    · rintro (hx | rfl)
      · exact hd.other hb h1 h2 h3 hx
      · unfold Jn at hj
        rw [hb] at hj
        injection hj with hj
        injection hj with _ hj
        exact h4 hj

theorem append_jm (h : JM w0 w j g x) (hx : x.Ok) (A : Option Addr) (m c : Nat) (b : List UInt8) (hb : Hold w A m c b) (hm : m ≤ 140737488355328) (hbuf : x.d.buf.length ≤ 1099511627776) :
    Calls Try.prog 78 #[.pointer (some ⟨j, 0, none⟩), .slice A m c] w fun e w' => e = .returned (.int .i64 (x.err b)) ∧ JM w0 w' j g (x.app b) ∧ Others w w' := by
  have hl := hb.1
  obtain ⟨hM, hj, h0⟩ := h
  have hM' := hM
  obtain ⟨L, q, hd, hb0, hf⟩ := hM
  have hmost := hd.ok.most
  obtain ⟨a1, a2, a3, a4⟩ := hx
  by_cases h1 : 1048576 < b.length
  · refine (append_long w j A m c (by omega) hm).mono ?_
    rintro e w' ⟨rfl, rfl⟩
    unfold JS.err JS.app
    rw [if_pos h1, if_pos h1]
    exact ⟨rfl, ⟨hM', hj, h0⟩, Others.refl _⟩
  · by_cases h2 : 64 * (x.to - x.fr) < x.en + 16 + b.length
    · refine (append_full w j g _ _ _ _ A m c (by omega) (by omega) (by omega) (by omega) (by omega) (by omega) (by omega) (by omega) hj).mono ?_
      rintro e w' ⟨rfl, hbw⟩
      unfold JS.err JS.app
      rw [if_neg h1, if_neg h1, if_pos h2, if_pos h2]
      exact ⟨rfl, JM.below ⟨hM', hj, h0⟩ hbw, Others.below hbw⟩
    · refine (append_fits w j g L q x.d hd _ _ _ _ A m c b hb (by omega) (by omega) (by omega) (by omega) (by omega) (by omega) (by omega) (by omega) (by omega) (by omega) hj (x.fr + x.en / 64) (x.en % 64) (by omega) (by omega) (by omega) hbuf).mono ?_
      intro e w' hp
      unfold AppPost at hp
      unfold JS.err JS.app
      rw [if_neg h1, if_neg h1, if_neg h2, if_neg h2]
      by_cases h3 : x.d.left = 0
      · rw [if_pos h3] at hp
        rw [if_pos h3, if_pos h3]
        exact ⟨hp.1, JM.jafter hd hb0 hf h0 hj hp.2⟩
      · rw [if_neg h3] at hp
        rw [if_neg h3, if_neg h3]
        refine ⟨hp.1, ?_⟩
        have hp2 := hp.2
        show JM w0 w' j g (if (x.d.appW (x.fr + x.en / 64) (x.en % 64) b).fErr = 0 then ⟨_, _, _, _, _⟩ else ⟨_, _, _, _, _⟩) ∧ _
        by_cases h4 : (x.d.appW (x.fr + x.en / 64) (x.en % 64) b).fErr = 0
        · rw [if_pos h4, if_pos h4] at hp2
          rw [if_pos h4]
          have e1 : (x.en : Int) + 16 + m = ((x.en + 16 + b.length : Nat) : Int) := by omega
          have e2 : (x.cn : Int) + 1 = ((x.cn + 1 : Nat) : Int) := by omega
          rw [e1, e2] at hp2
          exact JM.jafter hd hb0 hf h0 hj hp2
        · rw [if_neg h4, if_neg h4] at hp2
          rw [if_neg h4]
          exact JM.jafter hd hb0 hf h0 hj hp2

theorem jend_jm (h : JM w0 w j g x) : Calls Try.prog 54 #[.pointer (some ⟨j, 0, none⟩)] w fun e w' => e = .returned (.int .i64 (x.en : Int)) ∧ w' = w := jend_any w j g _ _ _ _ h.2.1
theorem jcount_jm (h : JM w0 w j g x) : Calls Try.prog 55 #[.pointer (some ⟨j, 0, none⟩)] w fun e w' => e = .returned (.int .i64 (x.cn : Int)) ∧ w' = w := jcount_any w j g _ _ _ _ h.2.1
theorem new_mine (w0 w : World) (n : Int) (hb : Below w0.heap.size w0 w) : Calls Try.prog 8 #[.int .i64 n] w fun e w' => ∃ g, e = .returned (.pointer (some ⟨g, 0, none⟩)) ∧ Mine w0 w' g (newSt (newN n)) ∧ Below w.heap.size w w' ∧ w.heap.size ≤ g := by
  refine (new_any w n).mono ?_
  rintro e w' ⟨g, L, rfl, hd, hb', h1, h2⟩
  have := hb.size
  refine ⟨g, rfl, ⟨L, none, hd, hb.trans (hb'.mono hb.size), ?_⟩, hb', h1⟩
  rintro b (rfl | rfl | h)
  · omega
  · omega
  · cases h
theorem open_mine (h : Mine w0 w g s) (fr to en cn : Int) (h1 : -9223372036854775808 ≤ fr) (h2 : fr ≤ 9223372036854775807) (hbuf : s.buf.length ≤ 4611686018427387904) :
    Calls Try.prog 46 #[.pointer (some ⟨g, 0, none⟩), .int .i64 fr, .int .i64 to, .int .i64 en, .int .i64 cn] w (OpenPost w g s fr to en cn) := by
  obtain ⟨L, q, hd, _, _⟩ := h
  exact jopen_any w g L q s hd fr to en cn h1 h2 hbuf
theorem down_mine (h : Mine w0 w g s) : Calls Try.prog 32 #[.pointer (some ⟨g, 0, none⟩)] w fun e w' => e = .returned (.bool (decide (s.left = 0))) ∧ w' = w := by
  obtain ⟨L, q, hd, _, _⟩ := h
  exact down_any w g L q s hd
theorem write_jm (h : JM w0 w j g x) (i : Int) (A : Option Addr) (n c : Nat) (l : List UInt8) (hl : Hold w A n c l) (hn : n ≤ 281474976710656) (hb : (x.d.buf.length + 1) * 72 ≤ 140737488355328) :
    Calls Try.prog 50 #[.pointer (some ⟨g, 0, none⟩), .int .i64 i, .slice A n c] w fun e w' => e = .returned (.int .i64 (x.d.wErr i n)) ∧ JM w0 w' j g ⟨x.d.wSt i l, x.fr, x.to, x.en, x.cn⟩ ∧ Others w w' := by
  obtain ⟨⟨L, q, hd, hb0, hf⟩, hj, h0⟩ := h
  exact (write_any w g L q x.d hd i A n c l hl hn hb).mono fun e w' ⟨h1, h2⟩ => ⟨h1, JM.disk hd hb0 hf hj h0 h2⟩
theorem arm_jm (h : JM w0 w j g x) (n : Int) (h1 : -9223372036854775808 ≤ n) (h2 : n ≤ 9223372036854775807) : Calls Try.prog 12 #[.pointer (some ⟨g, 0, none⟩), .int .i64 n] w fun e w' => e = .returned (.tuple #[]) ∧ JM w0 w' j g ⟨x.d.aSt n, x.fr, x.to, x.en, x.cn⟩ ∧ Others w w' := by
  obtain ⟨⟨L, q, hd, hb0, hf⟩, hj, h0⟩ := h
  exact (arm_any w g L q x.d hd n h1 h2).mono fun e w' ⟨h1, h2⟩ => ⟨h1, JM.disk hd hb0 hf hj h0 h2⟩
theorem crash_jm (h : JM w0 w j g x) (k t : Int) (hn : x.d.buf.length ≤ 4611686018427387904) : Calls Try.prog 18 #[.pointer (some ⟨g, 0, none⟩), .int .i64 k, .int .i64 t] w fun e w' => e = .returned (.tuple #[]) ∧ JM w0 w' j g ⟨x.d.cSt k t, x.fr, x.to, x.en, x.cn⟩ ∧ Others w w' := by
  obtain ⟨⟨L, q, hd, hb0, hf⟩, hj, h0⟩ := h
  exact (crash_any w g L q x.d hd k t hn).mono fun e w' ⟨h1, h2⟩ => ⟨h1, JM.disk hd hb0 hf hj h0 h2⟩
/-- what Read answers, of a sector that there is, of a disk that is up -/
theorem read_ok (h : Mine w0 w g s) (i : Int) (hn : s.buf.length ≤ 4611686018427387904) (hr : s.refuse i = 0) :
    Calls Try.prog 43 #[.pointer (some ⟨g, 0, none⟩), .int .i64 i] w fun e w' => ∃ k, e = .returned (.tuple #[.slice (some ⟨k, 0, none⟩) 64 64, .int .i64 0]) ∧ w.heap.size ≤ k ∧ w'.heap[k]? = some (.cells (bv (s.told i.toNat)).toArray 88 (0, 0)) ∧ Below w.heap.size w w' := by
  obtain ⟨L, q, hd, hb0, hf⟩ := h
  refine (read_any w g L q s hd i hn).mono fun e w' hp => ?_
  unfold ReadPost at hp
  rwa [if_pos hr] at hp
theorem read_no (h : Mine w0 w g s) (i : Int) (hn : s.buf.length ≤ 4611686018427387904) (hr : s.refuse i ≠ 0) :
    Calls Try.prog 43 #[.pointer (some ⟨g, 0, none⟩), .int .i64 i] w fun e w' => e = .returned (.tuple #[.slice none 0 0, .int .i64 (s.refuse i)]) ∧ w' = w := by
  obtain ⟨L, q, hd, hb0, hf⟩ := h
  refine (read_any w g L q s hd i hn).mono fun e w' hp => ?_
  unfold ReadPost at hp
  rwa [if_neg hr] at hp
end

/-! ### a disk that is never armed -/
theorem tick_up {n : Int} (h : n < 0) : tick n = n := by unfold tick; rw [if_neg (by omega)]
theorem wSt_up {s : D} (h : s.left < 0) (i : Int) (l : List UInt8) : (s.wSt i l).left = s.left := by
  unfold D.wSt
  split
  · rfl
  · split
    · rfl
    · exact tick_up h
theorem wrs_up {s : D} (h : s.left < 0) (k0 : Nat) (l : List UInt8) : ∀ k, (s.wrs k0 l k).left = s.left
  | 0 => rfl
  | k + 1 => by
    have ih := wrs_up h k0 l k
    exact (wSt_up (by rw [ih]; exact h) _ _).trans ih
theorem appW_up {s : D} (h : s.left < 0) (k r : Nat) (b : List UInt8) : (s.appW k r b).left = s.left := wrs_up h _ _ _
theorem JS.err_up {x : JS} (h : x.d.left < 0) (b : List UInt8) : x.err b = if 1048576 < b.length then 3 else if 64 * (x.to - x.fr) < x.en + 16 + b.length then 51 else 0 := by
  have h1 : (x.wr b).left = x.d.left := appW_up h _ _ _
  unfold JS.err D.fErr
  rw [h1, if_neg (show ¬ x.d.left = 0 by omega), if_neg (show ¬ x.d.left = 0 by omega)]
theorem JS.app_up {x : JS} (h : x.d.left < 0) (b : List UInt8) (h1 : ¬ 1048576 < b.length) (h2 : ¬ 64 * (x.to - x.fr) < x.en + 16 + b.length) : x.app b = ⟨(x.wr b).fSt, x.fr, x.to, x.en + 16 + b.length, x.cn + 1⟩ := by
  have h3 : (x.wr b).left = x.d.left := appW_up h _ _ _
  unfold JS.app
  rw [if_neg h1, if_neg h2, if_neg (show ¬ x.d.left = 0 by omega), if_pos]
  unfold D.fErr
  rw [h3, if_neg (by omega)]
theorem fSt_up {s : D} (h : s.left < 0) : s.fSt = ⟨settle s.last s.buf, [], s.left⟩ := by
  unfold D.fSt
  rw [if_neg (by omega), tick_up h]
theorem JS.wr_last (x : JS) (b : List UInt8) : (x.wr b).fSt.last.length = x.d.last.length := by
  have h : (x.wr b).last = x.d.last := wrs_last _ _ _ _
  unfold D.fSt
  split
  · rw [h]
  · simp only [settle_length]
    rw [h]
theorem JS.Ok.app {x : JS} (h : x.Ok) (b : List UInt8) : (x.app b).Ok := by
  obtain ⟨a1, a2, a3, a4⟩ := h
  have hl := x.wr_last b
  unfold JS.app
  split
  · exact ⟨a1, a2, a3, a4⟩
  · split
    · exact ⟨a1, a2, a3, a4⟩
    · split
      · exact ⟨a1, a2, a3, a4⟩
      · split
        · exact ⟨a1, by simp only; omega, by simp only; omega, by simp only; omega⟩
        · exact ⟨a1, by simp only; omega, a3, a4⟩
end Go.Proofs.Ytbfhlleipeipbaa
