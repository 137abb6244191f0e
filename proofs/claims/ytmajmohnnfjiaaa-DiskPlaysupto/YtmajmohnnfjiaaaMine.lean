/-
  What is proved: what a law's own disk has behind each call, told by the disk as lists; nothing that was there when the law began has turned, nor what is of other types.
-/
import Derived.Test.YtmajmohnnfjiaaaClone
import Derived.Laws.BytesArg
namespace Go.Proofs.Ytmajmohnnfjiaaa
open Go.RowKit

/-- a disk of the law's own (w0: when the law began) -/
def Mine (w0 w : World) (g : Nat) (s : D) : Prop := ∃ L q, Dk w g L q s ∧ Below w0.heap.size w0 w ∧ ∀ b, Foot g L q b → w0.heap.size ≤ b
/-- what is of other types than a disk's blocks is as it was -/
def Others (w w' : World) : Prop := w.heap.size ≤ w'.heap.size ∧ ∀ (b : Nat) (C : Array Value) (t : TypeId) (fr : Nat × Nat), w.heap[b]? = some (.cells C t fr) → t ≠ 58 → t ≠ 64 → t ≠ 66 → w'.heap[b]? = some (.cells C t fr)
theorem Others.refl (w : World) : Others w w := ⟨Nat.le_refl _, fun _ _ _ _ h _ _ _ => h⟩
theorem Others.trans {a b c : World} (h : Others a b) (k : Others b c) : Others a c := ⟨Nat.le_trans h.1 k.1, fun x C t fr hx h1 h2 h3 => k.2 x C t fr (h.2 x C t fr hx h1 h2 h3) h1 h2 h3⟩
theorem Others.below {w w' : World} (hb : Below w.heap.size w w') : Others w w' := ⟨hb.size, fun b C t fr h _ _ _ => by rw [hb.block b (Array.getElem?_eq_some_iff.1 h).1]; exact h⟩
section
variable {w0 w w' : World} {g : Nat} {s s' : D}
theorem Mine.b (h : Mine w0 w g s) : Below w0.heap.size w0 w := by obtain ⟨L, q, _, hb, _⟩ := h; exact hb
theorem Mine.ok (h : Mine w0 w g s) : s.Ok := by obtain ⟨L, q, hd, _⟩ := h; exact hd.ok
theorem Mine.below (h : Mine w0 w g s) (hb : Below w.heap.size w w') : Mine w0 w' g s := by
  obtain ⟨L, q, hd, hb0, hf⟩ := h
  exact ⟨L, q, hd.below hb, hb0.trans (hb.mono hb0.size), hf⟩
theorem Mine.drew (h : Mine w0 w g s) : Mine w0 w.drew g s := h.below ((Below.refl _ _).drew)
theorem Mine.alloc (h : Mine w0 w g s) (o : Obj) : Mine w0 (w.alloc o) g s := h.below ((Below.refl _ _).alloc (Nat.le_refl _) o)
/-- another block of the law's own is written -/
theorem Mine.frame (h : Mine w0 w g s) {S : Nat → Prop} (hc : Chg S w w') (hS : ∀ b, S b → w0.heap.size ≤ b) (hO : ∀ b, S b → ∃ C t fr, w.heap[b]? = some (.cells C t fr) ∧ t ≠ 58 ∧ t ≠ 64 ∧ t ≠ 66) : Mine w0 w' g s := by
  obtain ⟨L, q, hd, hb0, hf⟩ := h
  refine ⟨L, q, hd.frame fun b hfb => hc.block b (hd.lt b hfb) (fun e => ?_), Chg.below hb0 hc hb0.size hS, hf⟩
  obtain ⟨C, t, fr, hC, h1, h2, h3⟩ := hO b e
  exact hd.other hC h1 h2 h3 hfb
theorem Mine.after {L : Nat} {q : Option Nat} (hd : Dk w g L q s) (hb0 : Below w0.heap.size w0 w) (hf : ∀ b, Foot g L q b → w0.heap.size ≤ b) (h : After w w' g L q s') : Mine w0 w' g s' ∧ Others w w' := by
  obtain ⟨q', hd', hc, hq⟩ := h
  refine ⟨⟨L, q', hd', Chg.below hb0 hc hb0.size hf, ?_⟩, hc.size, fun b C t fr hb h1 h2 h3 => ?_⟩
  · rintro b (rfl | rfl | hb)
    · exact hf b (.inl rfl)
    · exact hf b (.inr (.inl rfl))
    · rcases hq b hb with hb | hb
      · exact hf b (.inr (.inr hb))
      · have := hb0.size; omega
  · rw [hc.block b (Array.getElem?_eq_some_iff.1 hb).1 (hd.other hb h1 h2 h3)]
    exact hb

theorem write_mine (h : Mine w0 w g s) (i : Int) (A : Option Addr) (n c : Nat) (l : List UInt8) (hl : Hold w A n c l) (hn : n ≤ 281474976710656) (hb : (s.buf.length + 1) * 72 ≤ 140737488355328) :
    Calls Try.prog 11 #[.pointer (some ⟨g, 0, none⟩), .int .i64 i, .slice A n c] w fun e w' => e = .returned (.int .i64 (s.wErr i n)) ∧ Mine w0 w' g (s.wSt i l) ∧ Others w w' := by
  obtain ⟨L, q, hd, hb0, hf⟩ := h
  exact (write_any w g L q s hd i A n c l hl hn hb).mono fun e w' ⟨h1, h2⟩ => ⟨h1, Mine.after hd hb0 hf h2⟩
theorem flush_mine (h : Mine w0 w g s) (hn : s.buf.length ≤ 4611686018427387904) : Calls Try.prog 13 #[.pointer (some ⟨g, 0, none⟩)] w fun e w' => e = .returned (.int .i64 s.fErr) ∧ Mine w0 w' g s.fSt ∧ Others w w' := by
  obtain ⟨L, q, hd, hb0, hf⟩ := h
  exact (flush_any w g L q s hd hn).mono fun e w' ⟨h1, h2⟩ => ⟨h1, Mine.after hd hb0 hf h2⟩
theorem arm_mine (h : Mine w0 w g s) (n : Int) (h1 : -9223372036854775808 ≤ n) (h2 : n ≤ 9223372036854775807) : Calls Try.prog 15 #[.pointer (some ⟨g, 0, none⟩), .int .i64 n] w fun e w' => e = .returned (.tuple #[]) ∧ Mine w0 w' g (s.aSt n) ∧ Others w w' := by
  obtain ⟨L, q, hd, hb0, hf⟩ := h
  exact (arm_any w g L q s hd n h1 h2).mono fun e w' ⟨h1, h2⟩ => ⟨h1, Mine.after hd hb0 hf h2⟩
theorem crash_mine (h : Mine w0 w g s) (k t : Int) (hn : s.buf.length ≤ 4611686018427387904) : Calls Try.prog 17 #[.pointer (some ⟨g, 0, none⟩), .int .i64 k, .int .i64 t] w fun e w' => e = .returned (.tuple #[]) ∧ Mine w0 w' g (s.cSt k t) ∧ Others w w' := by
  obtain ⟨L, q, hd, hb0, hf⟩ := h
  exact (crash_any w g L q s hd k t hn).mono fun e w' ⟨h1, h2⟩ => ⟨h1, Mine.after hd hb0 hf h2⟩
theorem down_mine (h : Mine w0 w g s) : Calls Try.prog 24 #[.pointer (some ⟨g, 0, none⟩)] w fun e w' => e = .returned (.bool (decide (s.left = 0))) ∧ w' = w := by
  obtain ⟨L, q, hd, _, _⟩ := h
  exact down_any w g L q s hd
theorem waits_mine (h : Mine w0 w g s) : Calls Try.prog 23 #[.pointer (some ⟨g, 0, none⟩)] w fun e w' => e = .returned (.int .i64 (s.buf.length : Int)) ∧ w' = w := by
  obtain ⟨L, q, hd, _, _⟩ := h
  exact waits_any w g L q s hd
theorem size_mine (h : Mine w0 w g s) : Calls Try.prog 36 #[.pointer (some ⟨g, 0, none⟩)] w fun e w' => e = .returned (.int .i64 (s.last.length : Int)) ∧ w' = w := by
  obtain ⟨L, q, hd, _, _⟩ := h
  exact size_any w g L q s hd
/-- what Read answers, of a sector that there is, of a disk that is up -/
theorem read_ok (h : Mine w0 w g s) (i : Int) (hn : s.buf.length ≤ 4611686018427387904) (hr : s.refuse i = 0) :
    Calls Try.prog 20 #[.pointer (some ⟨g, 0, none⟩), .int .i64 i] w fun e w' => ∃ k, e = .returned (.tuple #[.slice (some ⟨k, 0, none⟩) 64 64, .int .i64 0]) ∧ w.heap.size ≤ k ∧ w'.heap[k]? = some (.cells (bv (s.told i.toNat)).toArray 64 (0, 0)) ∧ Below w.heap.size w w' ∧ Mine w0 w' g s := by
  have h' := h
  obtain ⟨L, q, hd, hb0, hf⟩ := h
  refine (read_any w g L q s hd i hn).mono fun e w' hp => ?_
  unfold ReadPost at hp
  rw [if_pos hr] at hp
  obtain ⟨k, h1, h2, h3, h4⟩ := hp
  exact ⟨k, h1, h2, h3, h4, h'.below h4⟩
theorem read_no (h : Mine w0 w g s) (i : Int) (hn : s.buf.length ≤ 4611686018427387904) (hr : s.refuse i ≠ 0) :
    Calls Try.prog 20 #[.pointer (some ⟨g, 0, none⟩), .int .i64 i] w fun e w' => e = .returned (.tuple #[.slice none 0 0, .int .i64 (s.refuse i)]) ∧ w' = w := by
  obtain ⟨L, q, hd, hb0, hf⟩ := h
  refine (read_any w g L q s hd i hn).mono fun e w' hp => ?_
  unfold ReadPost at hp
  rwa [if_neg hr] at hp
theorem new_mine (w0 w : World) (n : Int) (hb : Below w0.heap.size w0 w) : Calls Try.prog 8 #[.int .i64 n] w fun e w' => ∃ g, e = .returned (.pointer (some ⟨g, 0, none⟩)) ∧ Mine w0 w' g (newSt (newN n)) ∧ Below w.heap.size w w' ∧ w.heap.size ≤ g := by
  refine (new_any w n).mono ?_
  rintro e w' ⟨g, L, rfl, hd, hb', h1, h2⟩
  have := hb.size
  refine ⟨g, rfl, ⟨L, none, hd, hb.trans (hb'.mono hb.size), ?_⟩, hb', h1⟩
  rintro b (rfl | rfl | h)
  · omega
  · omega
  · cases h
/-- a disk that is copied -/
theorem clone_mine (h : Mine w0 w g s) (hn : s.buf.length * 72 ≤ 140737488355328) : Calls Try.prog 19 #[.pointer (some ⟨g, 0, none⟩)] w fun e w' => ∃ v, e = .returned v ∧ OwnDk w.heap.size w' s v ∧ Below w.heap.size w w' := by
  obtain ⟨L, q, hd, _, _⟩ := h
  exact clone_any w g L q s hd hn
end

/-- bytes as a text -/
theorem conv_hold {w : World} {A : Option Addr} {n c : Nat} {l : List UInt8} (h : Hold w A n c l) : (convert 28 9 (.slice A n c)).run Try.prog w = .ok (.string ⟨l.toArray⟩) w := by
  obtain rfl := h.1
  cases A with
  | none =>
    have h0 := h.none_ rfl
    have hl : l = [] := List.eq_nil_of_length_eq_zero h0.1
    subst hl
    exact run_convert_bytes_nil w 28 5 Try.underlying28 Try.underlying5 _ _ 9 Try.underlying9
  | some a =>
    refine run_convert_bytes_back w 28 9 5 a c l Try.underlying28 Try.underlying5 Try.underlying9 (fun j hj => ?_)
    exact h.cells a rfl j _ ((bv_get l j _).2 ⟨hj, rfl⟩)

end Go.Proofs.Ytmajmohnnfjiaaa
