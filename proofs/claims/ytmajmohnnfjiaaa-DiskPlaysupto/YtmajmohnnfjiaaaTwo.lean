/-
  What is proved: two disks of the law's own, of which one is a copy of the other: what is done to the first turns nothing of the second.
-/
import Derived.Test.YtmajmohnnfjiaaaWhole
namespace Go.Proofs.Ytmajmohnnfjiaaa
open Go.RowKit

def Two (w0 w : World) (g : Nat) (s : D) (c : Nat) (sc : D) : Prop :=
  ∃ L q Lc qc, Dk w g L q s ∧ Dk w c Lc qc sc ∧ (∀ b, Foot g L q b → ¬ Foot c Lc qc b) ∧ Below w0.heap.size w0 w ∧ (∀ b, Foot g L q b → w0.heap.size ≤ b) ∧ ∀ b, Foot c Lc qc b → w0.heap.size ≤ b
section
variable {w0 w w' : World} {g c : Nat} {s s' sc : D}
theorem Two.below (h : Two w0 w g s c sc) (hb : Below w.heap.size w w') : Two w0 w' g s c sc := by
  obtain ⟨L, q, Lc, qc, h1, h2, h3, h4, h5, h6⟩ := h
  exact ⟨L, q, Lc, qc, h1.below hb, h2.below hb, h3, h4.trans (hb.mono h4.size), h5, h6⟩
theorem Two.alloc (h : Two w0 w g s c sc) (o : Obj) : Two w0 (w.alloc o) g s c sc := h.below ((Below.refl _ _).alloc (Nat.le_refl _) o)
theorem Two.copy (h : Two w0 w g s c sc) : Mine w0 w c sc := by
  obtain ⟨L, q, Lc, qc, h1, h2, h3, h4, h5, h6⟩ := h
  exact ⟨Lc, qc, h2, h4, h6⟩
theorem Two.after {L Lc : Nat} {q qc : Option Nat} (h2 : Dk w c Lc qc sc) (h3 : ∀ b, Foot g L q b → ¬ Foot c Lc qc b) (h4 : Below w0.heap.size w0 w) (h5 : ∀ b, Foot g L q b → w0.heap.size ≤ b) (h6 : ∀ b, Foot c Lc qc b → w0.heap.size ≤ b) (h : After w w' g L q s') : Two w0 w' g s' c sc := by
  obtain ⟨q', hd, hc, hq⟩ := h
  refine ⟨L, q', Lc, qc, hd, h2.frame fun b hb => hc.block b (h2.lt b hb) (fun e => h3 b e hb), ?_, Chg.below h4 hc h4.size h5, ?_, h6⟩
  · rintro b (hb | hb | hb) hcb
    · exact h3 b (.inl hb) hcb
    · exact h3 b (.inr (.inl hb)) hcb
    · rcases hq b hb with hb | hb
      · exact h3 b (.inr (.inr hb)) hcb
      · have := h2.lt b hcb; omega
  · rintro b (hb | hb | hb)
    · exact h5 b (.inl hb)
    · exact h5 b (.inr (.inl hb))
    · rcases hq b hb with hb | hb
      · exact h5 b (.inr (.inr hb))
      · have := h4.size; omega
theorem write_two (h : Two w0 w g s c sc) (i : Int) (A : Option Addr) (n cp : Nat) (l : List UInt8) (hl : Hold w A n cp l) (hn : n ≤ 281474976710656) (hb : (s.buf.length + 1) * 72 ≤ 140737488355328) :
    Calls Try.prog 11 #[.pointer (some ⟨g, 0, none⟩), .int .i64 i, .slice A n cp] w fun e w' => e = .returned (.int .i64 (s.wErr i n)) ∧ Two w0 w' g (s.wSt i l) c sc := by
  obtain ⟨L, q, Lc, qc, h1, h2, h3, h4, h5, h6⟩ := h
  exact (write_any w g L q s h1 i A n cp l hl hn hb).mono fun e w' ⟨e1, e2⟩ => ⟨e1, Two.after h2 h3 h4 h5 h6 e2⟩
theorem flush_two (h : Two w0 w g s c sc) (hn : s.buf.length ≤ 4611686018427387904) : Calls Try.prog 13 #[.pointer (some ⟨g, 0, none⟩)] w fun e w' => e = .returned (.int .i64 s.fErr) ∧ Two w0 w' g s.fSt c sc := by
  obtain ⟨L, q, Lc, qc, h1, h2, h3, h4, h5, h6⟩ := h
  exact (flush_any w g L q s h1 hn).mono fun e w' ⟨e1, e2⟩ => ⟨e1, Two.after h2 h3 h4 h5 h6 e2⟩
theorem clone_two (h : Mine w0 w g s) (hn : s.buf.length * 72 ≤ 140737488355328) : Calls Try.prog 19 #[.pointer (some ⟨g, 0, none⟩)] w fun e w' => ∃ c, e = .returned (.pointer (some ⟨c, 0, none⟩)) ∧ Two w0 w' g s c s ∧ Others w w' := by
  obtain ⟨L, q, hd, hb0, hf⟩ := h
  refine (clone_any w g L q s hd hn).mono ?_
  rintro e w' ⟨v, rfl, ⟨c, Lc, qc, rfl, hdc, hfc⟩, hb⟩
  refine ⟨c, rfl, ⟨L, q, Lc, qc, hd.below hb, hdc, fun b h1 h2 => ?_, hb0.trans (hb.mono hb0.size), hf, fun b hb' => ?_⟩, Others.below hb⟩
  · have := hd.lt b h1
    have := hfc b h2
    omega
  · have := hfc b hb'
    have := hb0.size
    omega
end

/-- a disk, and a block of bytes of its own that is no part of it -/
def MineB (w0 w : World) (g : Nat) (s : D) (k : Nat) : Prop := ∃ L q, Dk w g L q s ∧ Below w0.heap.size w0 w ∧ (∀ b, Foot g L q b → w0.heap.size ≤ b) ∧ ¬ Foot g L q k ∧ w0.heap.size ≤ k ∧ ∃ C, w.heap[k]? = some (.cells C 64 (0, 0)) ∧ C.size = 64
section
variable {w0 w : World} {g k : Nat} {s : D}
theorem MineB.mine (h : MineB w0 w g s k) : Mine w0 w g s := by
  obtain ⟨L, q, h1, h2, h3, _⟩ := h
  exact ⟨L, q, h1, h2, h3⟩
theorem MineB.cell (h : MineB w0 w g s k) {j : Nat} (hj : j < 64) : (∃ v, w.cell? ⟨k, j, none⟩ = some v) ∧ w.frozen? ⟨k, j, none⟩ = false := by
  obtain ⟨L, q, _, _, _, _, _, C, hC, hs⟩ := h
  refine ⟨⟨C[j]'(by omega), ?_⟩, by simp [World.frozen?, hC]⟩
  rw [cell_of_row w k j C 64 (0, 0) hC]
  simp [show j < C.size by omega]
theorem MineB.set (h : MineB w0 w g s k) (j : Nat) (v : Value) : MineB w0 (w.setCell ⟨k, j, none⟩ v) g s k := by
  obtain ⟨L, q, h1, h2, h3, h4, h5, C, hC, hs⟩ := h
  refine ⟨L, q, h1.frame fun b hb => Below.heap_setCell _ _ _ _ (fun e => h4 (by subst e; exact hb)), h2.setCell h5 _, h3, h4, h5, _, heap_setCell_at hC j v, by simpa using hs⟩
theorem read_b (h : Mine w0 w g s) (i : Int) (hn : s.buf.length ≤ 4611686018427387904) (hr : s.refuse i = 0) :
    Calls Try.prog 20 #[.pointer (some ⟨g, 0, none⟩), .int .i64 i] w fun e w' => ∃ k, e = .returned (.tuple #[.slice (some ⟨k, 0, none⟩) 64 64, .int .i64 0]) ∧ MineB w0 w' g s k := by
  obtain ⟨L, q, hd, hb0, hf⟩ := h
  refine (read_any w g L q s hd i hn).mono fun e w' hp => ?_
  unfold ReadPost at hp
  rw [if_pos hr] at hp
  obtain ⟨k, h1, h2, h3, h4⟩ := hp
  obtain ⟨_, hi1, hi2⟩ := refuse_zero hr
  have hl := hd.ok.told_len (i := i.toNat) (by omega)
  refine ⟨k, h1, L, q, hd.below h4, hb0.trans (h4.mono hb0.size), hf, fun e => by have := hd.lt k e; omega, by have := hb0.size; omega, _, h3, by simp [bv_length, hl]⟩
end

theorem own_others {w w' : World} {base n : Nat} {v : Value} {xs : List Value} (h : w.ownsRow base 5 1 v n xs) (ho : Others w w') : w'.ownsRow base 5 1 v n xs := by
  refine ⟨h.1, ?_⟩
  rcases h.2 with h0 | ⟨g, cap, cur, hv, hb, hg, r⟩
  · exact .inl h0
  · exact .inr ⟨g, cap, cur, hv, hb, ho.2 g cur 5 (0, 0) hg (by decide) (by decide) (by decide), r⟩
theorem splice_one {α : Type} (L : List α) (k : Nat) (v : α) (h : k < L.length) : splice L k [v] = L.set k v := by
  unfold splice
  rw [List.set_eq_take_append_cons_drop, if_pos h]
  simp
/-- one byte of a row of the law's own is turned -/
theorem own_set {w : World} {base n c : Nat} {A : Option Addr} {xs : List UInt8} (h : w.ownsRow base 5 1 (.slice A n c) n (bv xs)) {k : Nat} (hk : k < n) :
    ∃ Q, A = some ⟨Q, 0, none⟩ ∧ base ≤ Q ∧ (∃ b : UInt8, w.cell? ⟨Q, k, none⟩ = some (.int .u8 (b.toNat : Int))) ∧ w.frozen? ⟨Q, k, none⟩ = false ∧ (∃ C, w.heap[Q]? = some (.cells C 5 (0, 0))) ∧
      ∀ y : Int, ∃ xs', (w.setCell ⟨Q, k, none⟩ (.int .u8 (y % 256))).ownsRow base 5 1 (.slice A n c) n (bv xs') := by
  have hxl : xs.length = n := by simpa [bv_length] using h.1
  rcases h.2 with ⟨hv, h0⟩ | ⟨Q, cap, cur, hv, hb, hg, h1, h2, h3, h4⟩
  · omega
  · injection hv with e1 e2 e3
    subst e1 e3
    have hks : k < cur.size := by omega
    refine ⟨Q, rfl, hb, ⟨xs[k]'(by omega), ?_⟩, by simp [World.frozen?, hg], ⟨cur, hg⟩, fun y => ⟨xs.set k (byteOf y), by simpa [bv_length] using hxl, .inr ⟨Q, c, _, rfl, hb, heap_setCell_at hg k _, h1, h2, by simpa using h3, ?_⟩⟩⟩
    · rw [cell_of_row w Q k cur 5 (0, 0) hg]
      have : (cur.toList.take (n * 1))[k]? = (bv xs)[k]? := by rw [h4]
      rw [List.getElem?_take, if_pos (by omega)] at this
      rw [← Array.getElem?_toList, this]
      exact (bv_get xs k _).2 ⟨by omega, rfl⟩
    · rw [Array.toList_setIfInBounds, List.take_set, h4, ← bv_set, byteOf_cast]
end Go.Proofs.Ytmajmohnnfjiaaa
