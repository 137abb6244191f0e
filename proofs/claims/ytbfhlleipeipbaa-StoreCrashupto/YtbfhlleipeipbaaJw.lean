/-
  What is proved: what the journal's 'write' answers and leaves: the bytes are written, sector by sector, and flushed. Conditions: the span lies on the disk, the bytes fill it from the first sector's beginning on, and lie in a row of their own.
-/
import Derived.Test.YtbfhlleipeipbaaJb
namespace Go.Proofs.Ytbfhlleipeipbaa
open Go.RowKit

/-- the disk behind the first k sectors' writes -/
def D.wrs (s : D) (k0 : Nat) (l : List UInt8) : Nat → D
  | 0 => s
  | k + 1 => (s.wrs k0 l k).wSt (((k0 + k : Nat)) : Int) ((l.drop (64 * k)).take 64)
theorem D.Ok.wrs {s : D} (h : s.Ok) (k0 : Nat) (l : List UInt8) : ∀ k, (s.wrs k0 l k).Ok
  | 0 => h
  | k + 1 => (D.Ok.wrs h k0 l k).wSt _ _
theorem wSt_last (s : D) (i : Int) (l : List UInt8) : (s.wSt i l).last = s.last := by
  unfold D.wSt
  split
  · rfl
  · split <;> rfl
theorem wSt_buf (s : D) (i : Int) (l : List UInt8) : (s.wSt i l).buf.length ≤ s.buf.length + 1 := by
  unfold D.wSt
  split
  · omega
  · split
    · omega
    · simp
theorem wrs_last (s : D) (k0 : Nat) (l : List UInt8) : ∀ k, (s.wrs k0 l k).last = s.last
  | 0 => rfl
  | k + 1 => (wSt_last _ _ _).trans (wrs_last s k0 l k)
theorem wrs_buf (s : D) (k0 : Nat) (l : List UInt8) : ∀ k, (s.wrs k0 l k).buf.length ≤ s.buf.length + k
  | 0 => Nat.le_refl _
  | k + 1 => by
    have h1 := wSt_buf (s.wrs k0 l k) (((k0 + k : Nat)) : Int) ((l.drop (64 * k)).take 64)
    have h2 := wrs_buf s k0 l k
    simp only [D.wrs]
    omega
theorem wSt_dead {s : D} (h : s.left = 0) (i : Int) (l : List UInt8) : s.wSt i l = s := by
  unfold D.wSt
  rw [if_pos]
  unfold D.refuse
  rw [if_pos h]
  decide
theorem wrs_dead {s : D} {k0 : Nat} {l : List UInt8} {k : Nat} (h : (s.wrs k0 l k).left = 0) : ∀ m, s.wrs k0 l (k + m) = s.wrs k0 l k
  | 0 => rfl
  | m + 1 => by
    have ih := wrs_dead h m
    show (s.wrs k0 l (k + m)).wSt _ _ = _
    rw [ih]
    exact wSt_dead h _ _
theorem fErr_dead {s : D} (h : s.left = 0) : s.fErr = 32 := by unfold D.fErr; rw [if_pos h]
theorem fSt_dead {s : D} (h : s.left = 0) : s.fSt = s := by unfold D.fSt; rw [if_pos h]
theorem refuse_in {s : D} {i : Nat} (hi : i < s.last.length) : s.refuse (i : Int) = if s.left = 0 then 32 else 0 := by
  unfold D.refuse
  split
  · rfl
  · rw [if_neg (by omega)]

/-- bytes in a block of the bytes' own type -/
def H5 (w : World) (A : Option Addr) (n c : Nat) (l : List UInt8) : Prop := Hold w A n c l ∧ ∀ b off, 0 < n → A = some ⟨b, off, none⟩ → ∃ C fr, w.heap[b]? = some (.cells C 5 fr)
theorem H5.keep {w w' : World} {A : Option Addr} {n c : Nat} {l : List UInt8} (h : H5 w A n c l) (hk : ∀ (b : Nat) (C : Array Value) (fr : Nat × Nat), w.heap[b]? = some (.cells C 5 fr) → w'.heap[b]? = some (.cells C 5 fr)) : H5 w' A n c l := by
  refine ⟨⟨h.1.1, h.1.2.1, h.1.2.2.1, fun hn => ?_⟩, fun b off hn e => ?_⟩
  · obtain ⟨b, off, e, hc⟩ := h.1.2.2.2 hn
    obtain ⟨C, fr, hb⟩ := h.2 b off hn e
    refine ⟨b, off, e, fun j hj => ?_⟩
    have := hc j hj
    rw [cell_of_row w b _ C 5 fr hb] at this
    rw [cell_of_row w' b _ C 5 fr (hk b C fr hb)]
    exact this
  · obtain ⟨C, fr, hb⟩ := h.2 b off hn e
    exact ⟨C, fr, hk b C fr hb⟩
theorem H5.of_own {w : World} {base : Nat} {A : Option Addr} {n c : Nat} {l : List UInt8} (h : w.ownsRow base 5 1 (.slice A n c) n (bv l)) : H5 w A n c l := by
  refine ⟨Hold.of_own h, fun b off hn e => ?_⟩
  obtain ⟨C, hC⟩ := own_tag (own_mono h (Nat.zero_le _)) (b := b) (by
    rcases h.2 with ⟨hv, h0⟩ | ⟨g, cap, cur, hv, _⟩
    · omega
    · injection hv with h1
      rw [e] at h1
      injection h1 with h1
      injection h1 with h1 h2
      subst h1 h2 e
      rfl)
  exact ⟨C, _, hC⟩
theorem H5.take {w : World} {A : Option Addr} {n c : Nat} {l : List UInt8} (h : H5 w A n c l) {k : Nat} (hk : k ≤ n) : H5 w A k c (l.take k) :=
  ⟨h.1.take hk, fun b off h0 e => h.2 b off (by omega) e⟩
theorem H5.drop {w : World} {A : Option Addr} {n c : Nat} {l : List UInt8} (h : H5 w A n c l) {k : Nat} (hk : k ≤ n) {A' : Option Addr} (hA : c ≠ k → A' = A.map (·.add k)) (hA0 : c = k → A' = A) : H5 w A' (n - k) (c - k) (l.drop k) := by
  refine ⟨h.1.drop hk hA hA0, fun b off h0 e => ?_⟩
  have hc := h.1.2.1
  rw [hA (by omega)] at e
  cases A with
  | none => cases e
  | some a =>
    obtain ⟨b1, off1, e1, _⟩ := h.1.2.2.2 (by omega)
    rw [e1] at e
    simp only [Option.map_some, Addr.add_lit, Option.some.injEq, Addr.mk.injEq] at e
    exact h.2 b off1 (by omega) (by rw [e1, e.1])
theorem Dk.calm {w w' : World} {g L B : Nat} {q : Option Nat} {s : D} (h : Dk w g L q s) (hc : Calm B w w') : Dk w' g L q s := by
  obtain ⟨ok, cap, v, hg, hL, hB, rfl⟩ := h
  exact ⟨ok, cap, v, hc.cells _ _ _ _ hg, own_cells hL (fun b C t fr _ hb => hc.cells b C t fr hb), own_cells hB (fun b C t fr _ hb => hc.cells b C t fr hb), rfl⟩
theorem Chg.calm {S : Nat → Prop} {w W W' : World} {B : Nat} (h : Chg S w W) (hc : Calm B W W') (hB : w.heap.size ≤ B) : Chg S w W' :=
  ⟨hc.os.trans h.os, hc.tape.trans h.tape, hc.output.trans h.output, Nat.le_trans h.size hc.size, fun b hb hn => (hc.low b (by omega) (by have := h.size; omega)).trans (h.block b hb hn)⟩
theorem After.calm {w W W' : World} {g L B : Nat} {q : Option Nat} {s : D} (h : After w W g L q s) (hc : Calm B W W') (hB : w.heap.size ≤ B) : After w W' g L q s := by
  obtain ⟨q', h1, h2, h3⟩ := h
  exact ⟨q', h1.calm hc, h2.calm hc hB, h3⟩
theorem After.trans {w W W' : World} {g L : Nat} {q q' : Option Nat} {s : D} (h1 : Chg (Foot g L q) w W) (h2 : ∀ k, q' = some k → q = some k ∨ w.heap.size ≤ k) (h : After W W' g L q' s) : After w W' g L q s := by
  obtain ⟨q2, a, b, c⟩ := h
  refine ⟨q2, a, h1.trans b (After.foot h2), fun k hk => ?_⟩
  rcases c k hk with h | h
  · exact h2 k h
  · exact .inr (Nat.le_trans h1.size h)
/-- what a call on the disk keeps: blocks of other types -/
theorem After.keep {w w' : World} {g L : Nat} {q : Option Nat} {s s' : D} (hd : Dk w g L q s) (h : After w w' g L q s') {b : Nat} {C : Array Value} {t : TypeId} {fr : Nat × Nat} (hb : w.heap[b]? = some (.cells C t fr)) (h1 : t ≠ 61) (h2 : t ≠ 88) (h3 : t ≠ 90) : w'.heap[b]? = some (.cells C t fr) := by
  obtain ⟨q2, _, hc, _⟩ := h
  rw [hc.block b (Array.getElem?_eq_some_iff.1 hb).1 (hd.other hb h1 h2 h3)]
  exact hb
theorem Dk.type {w : World} {g L : Nat} {q : Option Nat} {s : D} (h : Dk w g L q s) : ∀ b, Foot g L q b → ∃ C t fr, w.heap[b]? = some (.cells C t fr) ∧ (t = 61 ∨ t = 88 ∨ t = 90) := by
  obtain ⟨ok, cap, v, hg, hL, hB, rfl⟩ := h
  rintro b (rfl | rfl | hb)
  · exact ⟨_, _, _, hg, .inl rfl⟩
  · obtain ⟨C, hC⟩ := own_tag hL rfl
    exact ⟨_, _, _, hC, .inr (.inl rfl)⟩
  · obtain ⟨C, hC⟩ := own_tag hB hb
    exact ⟨_, _, _, hC, .inr (.inr rfl)⟩
theorem After.keeps {w w' : World} {g L B : Nat} {q : Option Nat} {s s' : D} (hd : Dk w g L q s) (h : After w w' g L q s') : Keeps B w w' := by
  obtain ⟨q2, _, hc, _⟩ := h
  refine Keeps.of_chg hc fun b hb => ?_
  obtain ⟨C, t, fr, h1, h2⟩ := hd.type b hb
  exact ⟨C, t, fr, h1, by rcases h2 with rfl | rfl | rfl <;> decide⟩
theorem Keeps.trans {B : Nat} {a b c : World} (h : Keeps B a b) (k : Keeps B b c) : Keeps B a c := ⟨Nat.le_trans h.1 k.1, fun x o hx ho hc => k.2 x o hx (h.2 x o hx ho hc) hc⟩
theorem Keeps.setCell {B : Nat} {a w : World} (h : Keeps B a w) {p : Addr} {C : Array Value} {t : TypeId} {fr : Nat × Nat} (hp : w.heap[p.block]? = some (.cells C t fr)) (ht : t ≠ 74) (u : Value) : Keeps B a (w.setCell p u) := by
  refine h.trans ⟨by simp [World.setCell], fun x o _ ho hc => ?_⟩
  rw [Below.heap_setCell _ _ _ _ (fun e => ?_)]
  · exact ho
  · subst e
    rw [hp] at ho
    injection ho with ho
    subst ho
    rcases hc with hc | ⟨C', fr', hc⟩
    · simp [Obj.isCells] at hc
    · injection hc with _ hc
      exact ht hc
theorem Keeps.drew (B : Nat) (w : World) : Keeps B w w.drew := ⟨Nat.le_refl _, fun _ _ _ h _ => h⟩

/-- 'write' within its rounds: the boxes of the disk, of the answer and of the bytes that are left; the disk -/
structure WrM (w : World) (g L : Nat) (q : Option Nat) (db bb rb : Nat) (A : Option Addr) (m c : Nat) (l : List UInt8) (sk : D) (W : World) : Prop where
  dbox : W.heap[db]? = some (.cells #[.pointer (some ⟨g, 0, none⟩)] 24 (0, 0))
  rbox : W.heap[rb]? = some (.cells #[.int .i64 0] 27 (0, 0))
  bbox : W.heap[bb]? = some (.cells #[.slice A m c] 43 (0, 0))
  bytes : H5 W A m c l
  disk : After w W g L q sk
  new : w.heap.size ≤ bb ∧ w.heap.size ≤ rb
def WrX (w : World) (g L : Nat) (q : Option Nat) (rb : Nat) (sN : D) (W : World) : Prop :=
  W.heap[rb]? = some (.cells #[.int .i64 32] 27 (0, 0)) ∧ After w W g L q sN ∧ sN.left = 0
section
variable {w W W' w2 V : World} {g L db bb rb m c B : Nat} {q : Option Nat} {A : Option Addr} {l : List UInt8} {sk s' : D}
theorem WrM.calm (h : WrM w g L q db bb rb A m c l sk W) (hc : Calm B W W') (hB : w.heap.size ≤ B) : WrM w g L q db bb rb A m c l sk W' := by
  obtain ⟨h1, h2, h3, h4, h5, h6⟩ := h
  exact ⟨hc.cells _ _ _ _ h1, hc.cells _ _ _ _ h2, hc.cells _ _ _ _ h3, h4.keep fun b C fr hb => hc.cells b C 5 fr hb, h5.calm hc hB, h6⟩
theorem WrM.call (h : WrM w g L q db bb rb A m c l sk W) : ∃ q', Dk W g L q' sk ∧ ∀ V w2, V = W.drew → After V w2 g L q' s' → WrM w g L q db bb rb A m c l s' w2 ∧ Keeps B W w2 := by
  obtain ⟨h1, h2, h3, h4, ⟨q', h5, h6, h7⟩, h8⟩ := h
  refine ⟨q', h5, ?_⟩
  rintro _ w2 rfl ha
  have hdV : Dk W.drew g L q' sk := h5.drew
  have ha' : After W w2 g L q' s' := by
    obtain ⟨q2, a, b, c⟩ := ha
    exact ⟨q2, a, ⟨b.os, b.tape, b.output, b.size, b.block⟩, c⟩
  refine ⟨⟨ha.keep hdV h1 (by decide) (by decide) (by decide), ha.keep hdV h2 (by decide) (by decide) (by decide), ha.keep hdV h3 (by decide) (by decide) (by decide), h4.keep fun b C fr hb => ha.keep hdV hb (by decide) (by decide) (by decide), After.trans h6 h7 ha', h8⟩, ?_⟩
  exact (Keeps.drew _ _).trans (ha.keeps hdV)
theorem After.setCell {s : D} (h : After w W g L q s) {p : Addr} {C : Array Value} {t : TypeId} {fr : Nat × Nat} (hp : W.heap[p.block]? = some (.cells C t fr)) (h1 : t ≠ 61) (h2 : t ≠ 88) (h3 : t ≠ 90) (hw : w.heap.size ≤ p.block) (u : Value) : After w (W.setCell p u) g L q s := by
  obtain ⟨q', a, b, c⟩ := h
  refine ⟨q', a.frame fun x hx => ?_, b.setCell (.inr hw) u, c⟩
  exact Below.heap_setCell _ _ _ _ (fun e => by subst e; exact a.other hp h1 h2 h3 hx)
theorem WrM.stop (h : WrM w g L q db bb rb A m c l sk w2) (hl : sk.left = 0) (hk : Keeps B W w2) : w2.cell? ⟨rb, 0, none⟩ = some (.int .i64 0) ∧ w2.frozen? ⟨rb, 0, none⟩ = false ∧ WrX w g L q rb sk (w2.setCell ⟨rb, 0, none⟩ (.int .i64 32)) ∧ Keeps B W (w2.setCell ⟨rb, 0, none⟩ (.int .i64 32)) := by
  obtain ⟨h1, h2, h3, h4, h5, h6⟩ := h
  obtain ⟨e1, e2⟩ := one_cell h2
  refine ⟨e1, e2, ⟨?_, h5.setCell (p := ⟨rb, 0, none⟩) h2 (by decide) (by decide) (by decide) h6.2 _, hl⟩, hk.setCell (p := ⟨rb, 0, none⟩) h2 (by decide) _⟩
  have := heap_setCell_at h2 0 (.int .i64 32)
  simpa using this
theorem WrM.next (h : WrM w g L q db bb rb A m c l sk w2) (hk : Keeps B W w2) {k : Nat} (hkm : k ≤ m) {A' : Option Addr} (hA : c ≠ k → A' = A.map (·.add k)) (hA0 : c = k → A' = A) :
    WrM w g L q db bb rb A' (m - k) (c - k) (l.drop k) sk (w2.setCell ⟨bb, 0, none⟩ (.slice A' (m - k) (c - k))) ∧ Keeps B W (w2.setCell ⟨bb, 0, none⟩ (.slice A' (m - k) (c - k))) := by
  obtain ⟨h1, h2, h3, h4, h5, h6⟩ := h
  have ne : ∀ (b : Nat) (C : Array Value) (t : TypeId) (fr : Nat × Nat), w2.heap[b]? = some (.cells C t fr) → t ≠ 43 → (w2.setCell ⟨bb, 0, none⟩ (.slice A' (m - k) (c - k))).heap[b]? = some (.cells C t fr) := fun b C t fr hb ht => by
    rw [Below.heap_setCell _ _ _ _ (tag_ne hb h3 ht)]
    exact hb
  refine ⟨⟨ne _ _ _ _ h1 (by decide), ne _ _ _ _ h2 (by decide), ?_, ?_, h5.setCell (p := ⟨bb, 0, none⟩) h3 (by decide) (by decide) (by decide) h6.1 _, h6⟩, hk.setCell (p := ⟨bb, 0, none⟩) h3 (by decide) _⟩
  · have := heap_setCell_at h3 0 (.slice A' (m - k) (c - k))
    simpa using this
  · exact (h4.drop hkm hA hA0).keep fun b C fr hb => ne b C 5 fr hb (by decide)
end
section
variable {P : Program} {n : Nat} {l : Nat} {Q : Exit → Act → World → Prop} {a : Act} {w : World} {id : Nat} {ops : List Oper}
theorem tail_in {y : Code} (m : Nat) (V : World) (hV : V = w.drew) (hm : P.follows .mixedOrders = true) (hB : Region.lexTailB .any ops.toArray m = true) (hc : calmB ops = true)
    (h : ∀ K : Act → World → Prop, (∀ a w, y.wpIn (Fence.wide.inRound l) n P Q a w → K a w) → wpStill P ops.toArray V (fun a' => wpList P ops.toArray (only K) (ops.drop m) a' V) (ops.take m) a) : ((Code.region id ops.toArray true).seq y).wpIn (Fence.wide.inRound l) n P Q a w :=
  wpIn_seq (region_tail_in m V hV (fun a w => y.wpIn (Fence.wide.inRound l) n P Q a w) hm hB hc (fun _ _ h => h) (h _ fun _ _ h => h))
end
/-- what one sector's write answers -/
theorem write_sector {V : World} {g L : Nat} {q : Option Nat} {sk : D} (hd : Dk V g L q sk) (i : Nat) (hi : i < sk.last.length) {A : Option Addr} {m c : Nat} {l : List UInt8} (hh : Hold V A m c l) (nk : Nat) (h1 : nk ≤ m) (h2 : nk = m ∧ m ≤ 64 ∨ nk = 64) (hb : (sk.buf.length + 1) * 72 ≤ 140737488355328) :
    Calls Try.prog 50 #[.pointer (some ⟨g, 0, none⟩), .int .i64 (i : Int), .slice A nk c] V fun e w' => e = .returned (.int .i64 (if sk.left = 0 then 32 else 0)) ∧ After V w' g L q (sk.wSt (i : Int) (l.take 64)) := by
  have hl := hh.1
  have e1 : l.take nk = l.take 64 := by
    rcases h2 with ⟨rfl, h⟩ | rfl
    · rw [List.take_of_length_le (by omega), List.take_of_length_le (by omega)]
    · rfl
  have := write_any V g L q sk hd i A nk c (l.take nk) (hh.take h1) (by omega) hb
  rw [e1] at this
  refine this.mono ?_
  rintro e w' ⟨rfl, ha⟩
  refine ⟨?_, ha⟩
  unfold D.wErr
  rw [refuse_in hi]
  split <;> rename_i h0
  · rfl
  · simp only [ne_eq, not_true_eq_false, if_false]
    rw [if_neg (by omega)]

set_option maxRecDepth 100000 in
set_option maxHeartbeats 1000000 in
theorem jwrite_any (w : World) (g L : Nat) (q : Option Nat) (s : D) (h : Dk w g L q s) (k0 n N : Nat) (f t : Int) (hf0 : 0 ≤ f) (hk0 : f / 64 = (k0 : Int)) (ht : t = ((64 * k0 + n : Nat) : Int)) (hN : N = (n + 63) / 64) (hin : k0 + N ≤ s.last.length)
    (base : Nat) (A : Option Addr) (c : Nat) (l : List UInt8) (hl : w.ownsRow base 5 1 (.slice A n c) n (bv l)) (hbuf : (s.buf.length + N) * 72 ≤ 140737488355328) :
    Calls Try.prog 99 #[.pointer (some ⟨g, 0, none⟩), .agg #[.int .i64 f, .int .i64 t], .slice A n c] w fun e w' => e = .returned (.int .i64 (s.wrs k0 l N).fErr) ∧ After w w' g L q (s.wrs k0 l N).fSt := by
  have hmost := h.ok.most
  have hf1 : f ≤ 4194368 := by omega
  have ht0 : 0 ≤ t := by omega
  have ht1 : t ≤ 4194368 := by omega
  have hNlo : ∀ k : Nat, k < N → ((k0 : Int) + k) * 64 < t := by intro k hk; omega
  have hNhi : t ≤ ((k0 : Int) + N) * 64 := by omega
  have hn1 : n ≤ 4194368 := by omega
  have HT := Lib.hid ht
  have HK := Lib.hid hk0
  have HN := Lib.hid hN
  have HD := Lib.hid h
  have HL := Lib.hid (H5.of_own hl)
  clear ht hk0 hN h hl
  refine (callsIn_wide (n := 0)).1 (callsIn_of_wp_marks Try.func99 rfl trivial (wpIn_wide.2 ?_) rfl)
  simp only [Try.ntmps99, List.size_toArray, List.length_cons, List.length_nil, Nat.reduceAdd, Nat.reduceSub, Array.replicate_succ, Array.replicate_zero, List.push_toArray, List.append_toArray, List.nil_append, List.cons_append]
  go_wp2_with fail
  refine wp_sectors f t k0 N rfl hf0 (by omega) ht0 (by omega) HK.out hNlo hNhi (by omega) (fun k W => ∃ A c, WrM w g L q w.heap.size (w.heap.size + 1 + 1) (w.heap.size + 1 + 1 + 1) A (n - 64 * k) c (l.drop (64 * k)) (s.wrs k0 l k) W) (WrX w g L q (w.heap.size + 1 + 1 + 1) (s.wrs k0 l N))
    (fun k W W' h hc => by obtain ⟨A, c, h⟩ := h; exact ⟨A, c, h.calm hc (by simp; omega)⟩) (fun W W' h hc => ⟨hc.cells _ _ _ _ h.1, h.2.1.calm hc (by simp; omega), h.2.2⟩) ?start
    (fun k => { tmps := #[.pointer (some ⟨g, 0, none⟩), .agg #[.int .i64 f, .int .i64 t], .slice A n c, .pointer (some ⟨w.heap.size, 0, none⟩), .pointer (some ⟨w.heap.size + 1, 0, none⟩), .pointer (some ⟨w.heap.size + 1 + 1, 0, none⟩), .pointer (some ⟨w.heap.size + 1 + 1 + 1, 0, none⟩), .int .i64 ((k0 : Int) + k), undef, undef, .agg #[.int .i64 f, .int .i64 t], .func (.func 90) #[.agg #[.int .i64 f, .int .i64 t]] #[], .int .i64 ((k0 : Int) + k), undef, undef, undef, undef, undef, undef, undef, undef, undef, undef, undef, undef, undef, undef, undef, undef, undef], defers := [] })
    ?assign ?body ?done ?stop
  case start =>
    refine ⟨A, c, ?_, heap_at _ _ _ (by simp), ?_, ?_, ⟨q, ?_, ?_, fun _ h => .inl h⟩, by omega, by omega⟩
    · rw [Below.heap_alloc _ _ _ (by simp; omega), Below.heap_alloc _ _ _ (by simp; omega), Below.heap_alloc _ _ _ (by simp)]
      exact heap_alloc_new _ _
    · rw [Below.heap_alloc _ _ _ (by simp)]
      exact heap_at _ _ _ (by simp)
    · refine HL.out.keep fun b C fr hb => ?_
      have hlt := (Array.getElem?_eq_some_iff.1 hb).1
      rw [Below.heap_alloc _ _ _ (by simp; omega), Below.heap_alloc _ _ _ (by simp; omega), Below.heap_alloc _ _ _ (by simp; omega), Below.heap_alloc _ _ _ (by omega)]
      exact hb
    · exact (((HD.out.alloc _).alloc _).alloc _).alloc _
    · exact ((((Chg.refl _ _).alloc _).alloc _).alloc _).alloc _
  case assign =>
    intro l k W K hK
    refine last_in (by kernel_rfl) fun K' hK' => ?_
    go_wp2
    exact hK' _ _ hK
  case body =>
    intro lp k W hk hI hsz
    obtain ⟨A1, c1, hM⟩ := hI
    have hm0 : 0 < n - 64 * k := by have := HN.out; omega
    have hm1 : n - 64 * k ≤ 4194368 := by omega
    obtain ⟨q', hd, hcall⟩ := hM.call (s' := s.wrs k0 l (k + 1)) (B := ((((w.alloc (.cells #[.pointer (some ⟨g, 0, none⟩)] 24)).alloc (.cells #[.int .i64 f, .int .i64 t] 74)).alloc (.cells #[.slice A n c] 43)).alloc (.cells #[.int .i64 0] 27)).heap.size)
    have hwb := wrs_buf s k0 l k
    have hwl := congrArg List.length (wrs_last s k0 l k)
    have hws : ∀ nk : Nat, nk ≤ n - 64 * k → (nk = n - 64 * k ∧ n - 64 * k ≤ 64 ∨ nk = 64) → Calls Try.prog 50 #[.pointer (some ⟨g, 0, none⟩), .int .i64 ((k0 : Int) + k), .slice A1 nk c1] W.drew fun e w' => e = .returned (.int .i64 (if (s.wrs k0 l k).left = 0 then 32 else 0)) ∧ After W.drew w' g L q' (s.wrs k0 l (k + 1)) := fun nk h1 h2 => by
      have := write_sector hd.drew (k0 + k) (by omega) hM.bytes.1.drew nk h1 h2 (by omega)
      rw [Int.natCast_add] at this
      exact this
    have HX : Hid ((s.wrs k0 l k).left = 0 → s.wrs k0 l N = s.wrs k0 l (k + 1)) := Lib.hid fun h0 => by
      have e1 := wrs_dead (k0 := k0) (l := l) h0 (N - k)
      have e2 := wrs_dead (k0 := k0) (l := l) h0 1
      rw [show k + (N - k) = N by omega] at e1
      rw [e1, e2]
    have HX2 : Hid ((s.wrs k0 l k).left = 0 → (s.wrs k0 l N).left = 0) := Lib.hid fun h0 => by
      have e1 := wrs_dead (k0 := k0) (l := l) h0 (N - k)
      rw [show k + (N - k) = N by omega] at e1
      rw [e1]; exact h0
    have hll := HL.out.1.1
    have HD1 : Hid (n - 64 * k ≤ 64 → n - 64 * (k + 1) = 0 ∧ l.drop (64 * (k + 1)) = (l.drop (64 * k)).drop (n - 64 * k)) := Lib.hid fun h => by
      refine ⟨by omega, ?_⟩
      rw [List.drop_drop, List.drop_of_length_le (by omega), List.drop_of_length_le (by omega)]
    have HD2 : Hid (n - 64 * (k + 1) = n - 64 * k - 64 ∧ l.drop (64 * (k + 1)) = (l.drop (64 * k)).drop 64) := Lib.hid ⟨by omega, by rw [List.drop_drop, Nat.mul_succ]⟩
    clear hll
    obtain ⟨hbc, hbf⟩ := one_cell hM.bbox
    obtain ⟨hdc, _⟩ := one_cell hM.dbox
    have hmc := hM.bytes.1.2.1
    have HM := Lib.hid hM
    have HC := Lib.hid hcall
    have HW := Lib.hid hws
    clear hM hcall hws hd hwb hwl
    generalize hm : n - 64 * k = m at *
    have HMM := Lib.hid hm
    clear hm
    refine wpIn_block ?_
    refine seq_in (by kernel_rfl) fun K hK => ?_
    by_cases h64 : m ≤ 64
    · go_wp2_with fail
      refine hK _ _ ?_
      clear hK
      obtain ⟨V, hV⟩ : ∃ V, V = W.drew := ⟨_, rfl⟩
      have hbcV : V.cell? ⟨w.heap.size + 1 + 1, 0, none⟩ = some (.slice A1 m c1) := by rw [hV]; exact hbc
      have hdcV : V.cell? ⟨w.heap.size, 0, none⟩ = some (.pointer (some ⟨g, 0, none⟩)) := by rw [hV]; exact hdc
      have HWV := HW.out m (by omega) (.inl ⟨rfl, h64⟩)
      have HCV := HC.out V
      rw [← hV] at HWV
      have HCV := Lib.hid fun w2 ha => HCV w2 hV ha
      have HV := Lib.hid hV
      clear HW hV HC
      by_cases h0 : (s.wrs k0 l k).left = 0
      · rw [if_pos h0] at HWV
        have HWV := Lib.hid HWV
        have HE := Lib.hid (HX.out h0)
        have HE2 := Lib.hid (HX2.out h0)
        clear HX HX2 h0
        refine wpIn_seq ?_
        refine tail_in 5 V HV.out (by kernel_rfl) (by kernel_rfl) (by kernel_rfl) fun K hK => ?_
        simp only [List.take_succ_cons, List.take_zero, List.drop_succ_cons, List.drop_zero]
        iterate 5 still_step
        refine wpStill_nil ?_
        go_wp2_with fail
        refine HWV.out.mono ?_
        rintro e w2 ⟨rfl, ha⟩
        obtain ⟨hM2, hk2⟩ := HCV.out w2 ha
        rw [← HE.out] at hM2
        obtain ⟨e1, e2, e3, e4⟩ := hM2.stop HE2.out hk2
        have E3 := Lib.hid e3
        have E4 := Lib.hid e4
        clear e3 e4 hM2 hk2 ha
        go_wp2_with fail
        refine hK _ _ ?_
        clear hK
        refine seq_in (by kernel_rfl) fun K hK => ?_
        go_wp2_with fail
        refine hK _ _ ?_
        clear hK
        refine wpIn_cond_true rfl ?_
        refine seq_in (by kernel_rfl) fun K hK => ?_
        go_wp2_with fail
        refine hK _ _ ?_
        refine wpIn_ret ?_
        exact ⟨E3.out, E4.out⟩
      · rw [if_neg h0] at HWV
        have HWV := Lib.hid HWV
        clear HX HX2 h0
        refine wpIn_seq ?_
        refine tail_in 5 V HV.out (by kernel_rfl) (by kernel_rfl) (by kernel_rfl) fun K hK => ?_
        simp only [List.take_succ_cons, List.take_zero, List.drop_succ_cons, List.drop_zero]
        iterate 5 still_step
        refine wpStill_nil ?_
        go_wp2_with fail
        refine HWV.out.mono ?_
        rintro e w2 ⟨rfl, ha⟩
        obtain ⟨hM2, hk2⟩ := HCV.out w2 ha
        obtain ⟨hbc2, hbf2⟩ := one_cell hM2.bbox
        have HM2 := Lib.hid hM2
        have HK2 := Lib.hid hk2
        clear hM2 hk2 ha
        go_wp2_with fail
        refine hK _ _ ?_
        clear hK
        refine seq_in (by kernel_rfl) fun K hK => ?_
        go_wp2_with fail
        refine hK _ _ ?_
        clear hK
        refine wpIn_cond_false rfl ?_
        refine wpIn_skip ?_
        refine last_in (by kernel_rfl) fun K hK => ?_
        by_cases hck : c1 = m
        · subst hck
          go_wp2_with fail
          obtain ⟨f1, f2⟩ := HM2.out.next HK2.out (k := c1) (by omega) (A' := A1) (fun h => absurd rfl h) (fun _ => rfl)
          rw [Nat.sub_self] at f1 f2
          obtain ⟨d1, d2⟩ := HD1.out h64
          refine hK _ _ ⟨⟨A1, 0, ?_⟩, f2⟩
          rw [d1, d2]
          exact f1
        · go_wp2_with fail
          obtain ⟨f1, f2⟩ := HM2.out.next HK2.out (k := m) (by omega) (A' := A1.map (·.add m)) (fun _ => rfl) (fun h => absurd h hck)
          rw [Nat.sub_self] at f1 f2
          obtain ⟨d1, d2⟩ := HD1.out h64
          refine hK _ _ ⟨⟨A1.map (·.add m), c1 - m, ?_⟩, f2⟩
          rw [d1, d2]
          exact f1
    · go_wp2_with fail
      refine hK _ _ ?_
      clear hK
      obtain ⟨V, hV⟩ : ∃ V, V = W.drew := ⟨_, rfl⟩
      have hbcV : V.cell? ⟨w.heap.size + 1 + 1, 0, none⟩ = some (.slice A1 m c1) := by rw [hV]; exact hbc
      have hdcV : V.cell? ⟨w.heap.size, 0, none⟩ = some (.pointer (some ⟨g, 0, none⟩)) := by rw [hV]; exact hdc
      have hc64 : (64 : Int) ≤ (c1 : Int) := by omega
      have hm64 : (64 : Int) ≤ (m : Int) := by omega
      have HWV := HW.out 64 (by omega) (.inr rfl)
      have HCV := HC.out V
      rw [← hV] at HWV
      have HCV := Lib.hid fun w2 ha => HCV w2 hV ha
      have HV := Lib.hid hV
      clear HW hV HC
      by_cases h0 : (s.wrs k0 l k).left = 0
      · rw [if_pos h0] at HWV
        have HWV := Lib.hid HWV
        have HE := Lib.hid (HX.out h0)
        have HE2 := Lib.hid (HX2.out h0)
        clear HX HX2 h0
        refine wpIn_seq ?_
        refine tail_in 5 V HV.out (by kernel_rfl) (by kernel_rfl) (by kernel_rfl) fun K hK => ?_
        simp only [List.take_succ_cons, List.take_zero, List.drop_succ_cons, List.drop_zero]
        iterate 5 still_step
        refine wpStill_nil ?_
        go_wp2_with fail
        refine HWV.out.mono ?_
        rintro e w2 ⟨rfl, ha⟩
        obtain ⟨hM2, hk2⟩ := HCV.out w2 ha
        rw [← HE.out] at hM2
        obtain ⟨e1, e2, e3, e4⟩ := hM2.stop HE2.out hk2
        have E3 := Lib.hid e3
        have E4 := Lib.hid e4
        clear e3 e4 hM2 hk2 ha
        go_wp2_with fail
        refine hK _ _ ?_
        clear hK
        refine seq_in (by kernel_rfl) fun K hK => ?_
        go_wp2_with fail
        refine hK _ _ ?_
        clear hK
        refine wpIn_cond_true rfl ?_
        refine seq_in (by kernel_rfl) fun K hK => ?_
        go_wp2_with fail
        refine hK _ _ ?_
        refine wpIn_ret ?_
        exact ⟨E3.out, E4.out⟩
      · rw [if_neg h0] at HWV
        have HWV := Lib.hid HWV
        clear HX HX2 h0
        refine wpIn_seq ?_
        refine tail_in 5 V HV.out (by kernel_rfl) (by kernel_rfl) (by kernel_rfl) fun K hK => ?_
        simp only [List.take_succ_cons, List.take_zero, List.drop_succ_cons, List.drop_zero]
        iterate 5 still_step
        refine wpStill_nil ?_
        go_wp2_with fail
        refine HWV.out.mono ?_
        rintro e w2 ⟨rfl, ha⟩
        obtain ⟨hM2, hk2⟩ := HCV.out w2 ha
        obtain ⟨hbc2, hbf2⟩ := one_cell hM2.bbox
        have HM2 := Lib.hid hM2
        have HK2 := Lib.hid hk2
        clear hM2 hk2 ha
        go_wp2_with fail
        refine hK _ _ ?_
        clear hK
        refine seq_in (by kernel_rfl) fun K hK => ?_
        go_wp2_with fail
        refine hK _ _ ?_
        clear hK
        refine wpIn_cond_false rfl ?_
        refine wpIn_skip ?_
        refine last_in (by kernel_rfl) fun K hK => ?_
        by_cases hck : c1 = 64
        · exfalso
          omega
        · go_wp2_with fail
          obtain ⟨f1, f2⟩ := HM2.out.next HK2.out (k := 64) (by omega) (A' := A1.map (·.add 64)) (fun _ => rfl) (fun h => absurd h hck)
          obtain ⟨d1, d2⟩ := HD2.out
          refine hK _ _ ⟨⟨A1.map (·.add 64), c1 - 64, ?_⟩, f2⟩
          rw [d1, d2]
          exact f1
  case done =>
    intro D W hD hI hDf
    obtain ⟨A1, c1, hM⟩ := hI
    obtain ⟨q', hd, hc, hq⟩ := hM.disk
    obtain ⟨hdc, _⟩ := one_cell hM.dbox
    have hwb := wrs_buf s k0 l N
    have HFL := Lib.hid (flush_any W g L q' _ hd (by omega))
    have HR := Lib.hid hM.rbox
    have HDD := Lib.hid hd
    have HCC := Lib.hid hc
    have HQ := Lib.hid hq
    have HDF := Lib.hid hDf
    clear hM hd hc hq hDf hwb
    unfold marked
    go_wp2_with fail
    refine HFL.out.mono ?_
    rintro e w2 ⟨rfl, ha⟩
    have hr2 := ha.keep HDD.out HR.out (by decide) (by decide) (by decide)
    have haw := After.trans HCC.out HQ.out ha
    obtain ⟨e1, e2⟩ := one_cell hr2
    have hdf2 : w2.heap[D]? = some (.deferred (some [])) := (ha.keeps (B := 0) HDD.out).2 D _ (Nat.zero_le _) HDF.out (.inl rfl)
    have HR2 := Lib.hid hr2
    have HAW := Lib.hid haw
    have HDF2 := Lib.hid hdf2
    clear hr2 haw hdf2 ha
    generalize her : (s.wrs k0 l N).fErr = er
    have HER := Lib.hid her
    clear her
    go_wp2_with fail
    obtain ⟨X, hX⟩ : ∃ X, X = w2.setCell ⟨w.heap.size + 1 + 1 + 1, 0, none⟩ (.int .i64 er) := ⟨_, rfl⟩
    have hne : D ≠ w.heap.size + 1 + 1 + 1 := by simp at hD; omega
    have x1 : X.heap[D]? = some (.deferred (some [])) := by rw [hX, Below.heap_setCell _ _ _ _ hne]; exact HDF2.out
    have x2 : X.heap[w.heap.size + 1 + 1 + 1]? = some (.cells #[.int .i64 er] 27 (0, 0)) := by rw [hX]; simpa using heap_setCell_at HR2.out 0 (.int .i64 er)
    have x3 : After w X g L q (s.wrs k0 l N).fSt := by rw [hX]; exact HAW.out.setCell (p := ⟨w.heap.size + 1 + 1 + 1, 0, none⟩) HR2.out (by decide) (by decide) (by decide) (by show _ ≤ _ + 1 + 1 + 1; omega) _
    rw [← hX]
    refine ⟨by simp, .inl ⟨_, _, rfl, run_takeDeferred x1, ?_⟩⟩
    have x4 := (one_cell (w := X.putObj D (.deferred none)) ((World.putObj_heap_other (Ne.symm hne)).trans x2)).1
    refine ⟨.int .i64 er, by simp [results, Try.results99, go_sem, x4], by rw [HER.out], ?_⟩
    exact x3.calm (Calm.put _ x1 rfl (by simp at hD; omega) (B := w.heap.size)) (Nat.le_refl _)
  case stop =>
    intro D W hD hX hDf
    obtain ⟨h1, h2, h3⟩ := hX
    have hne : D ≠ w.heap.size + 1 + 1 + 1 := by simp at hD; omega
    unfold marked
    refine ⟨by simp, .inl ⟨_, _, rfl, run_takeDeferred hDf, ?_⟩⟩
    have x4 := (one_cell (w := W.putObj D (.deferred none)) ((World.putObj_heap_other (Ne.symm hne)).trans h1)).1
    have e1 : (s.wrs k0 l N).fErr = 32 := fErr_dead h3
    have e2 : (s.wrs k0 l N).fSt = s.wrs k0 l N := fSt_dead h3
    refine ⟨.int .i64 32, by simp [results, Try.results99, go_sem, x4], by rw [e1], ?_⟩
    rw [e2]
    exact h2.calm (Calm.put _ hDf rfl (by simp at hD; omega) (B := w.heap.size)) (Nat.le_refl _)
end Go.Proofs.Ytbfhlleipeipbaa
