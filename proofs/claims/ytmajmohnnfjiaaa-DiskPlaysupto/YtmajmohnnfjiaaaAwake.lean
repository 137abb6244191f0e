/-
  What is proved: the law text asks of the program some fixed answers ahead of all else: they are as it asks. No condition.
-/
import Derived.Test.YtmajmohnnfjiaaaMine
import Derived.Lib.SlBytesConst
import Derived.Laws.Pointers
namespace Go.Proofs.Ytmajmohnnfjiaaa
open Go.RowKit

def aw1 : D := (newSt 2).wSt 0 [97, 98]
def aw2 : D := aw1.wSt 0 [99, 100]
def aw3 : D := aw2.cSt 1 1
def aw4 : D := aw3.aSt 1
def aw5 : D := aw4.wSt 1 []
theorem aw_e1 : (newSt 2).wErr 0 2 = 0 := by decide +kernel
theorem aw_e2 : aw1.wErr 0 2 = 0 := by decide +kernel
theorem aw_e3 : aw4.wErr 1 0 = 0 := by decide +kernel
theorem aw_r2 : aw2.refuse 0 = 0 := by decide +kernel
theorem aw_r3 : aw3.refuse 0 = 0 := by decide +kernel
theorem aw_r5 : aw5.refuse 0 = 32 := by decide +kernel
theorem aw_t2 : (aw2.told 0).take 2 = [99, 100] := by decide +kernel
theorem aw_t3 : (aw3.told 0).take 2 = [99, 98] := by decide +kernel
theorem aw_l2 : (aw2.told 0).length = 64 := by decide +kernel
theorem aw_l3 : (aw3.told 0).length = 64 := by decide +kernel
theorem aw_d5 : decide (aw5.left = 0) = true := by decide +kernel
theorem aw_b0 : (newSt 2).buf.length = 0 := by decide +kernel
theorem aw_b1 : aw1.buf.length = 1 := by decide +kernel
theorem aw_b2 : aw2.buf.length = 2 := by decide +kernel
theorem aw_b3 : aw3.buf.length = 0 := by decide +kernel
theorem aw_b4 : aw4.buf.length = 0 := by decide +kernel
theorem aw_b5 : aw5.buf.length = 1 := by decide +kernel
theorem newN_two : newN 2 = 2 := rfl

/-- a disk and what was read of it: behind calls that turn the disk alone -/
def Kept (w : World) (k : Nat) (l : List UInt8) : Prop := w.heap[k]? = some (.cells (bv l).toArray 64 (0, 0))
theorem Kept.take {w : World} {k : Nat} {l : List UInt8} (h : Kept w k l) (hl : l.length = 64) : Hold w (some ⟨k, 0, none⟩) 2 64 (l.take 2) := by
  have := Hold.block h 64 hl.symm
  exact this.take (by omega)
theorem Kept.chg {w w' : World} {k : Nat} {l : List UInt8} {S : Nat → Prop} (h : Kept w k l) (hc : Chg S w w') (hS : ¬ S k) : Kept w' k l := by
  unfold Kept
  rw [hc.block k (Array.getElem?_eq_some_iff.1 h).1 hS]
  exact h
theorem Kept.below {w w' : World} {k : Nat} {l : List UInt8} (h : Kept w k l) (hb : Below w.heap.size w w') : Kept w' k l := by
  unfold Kept
  rw [hb.block k (Array.getElem?_eq_some_iff.1 h).1]
  exact h

/-- a disk of the law's own, and what was read of it -/
def MineR (w0 w : World) (g : Nat) (s : D) (R : List (Nat × List UInt8)) : Prop := ∃ L q, Dk w g L q s ∧ Below w0.heap.size w0 w ∧ (∀ b, Foot g L q b → w0.heap.size ≤ b) ∧ ∀ r ∈ R, Kept w r.1 r.2 ∧ ¬ Foot g L q r.1
section
variable {w0 w w' : World} {g : Nat} {s s' : D} {R : List (Nat × List UInt8)}
theorem MineR.b (h : MineR w0 w g s R) : Below w0.heap.size w0 w := by obtain ⟨L, q, _, hb, _⟩ := h; exact hb
theorem MineR.below (h : MineR w0 w g s R) (hb : Below w.heap.size w w') : MineR w0 w' g s R := by
  obtain ⟨L, q, hd, hb0, hf, hr⟩ := h
  exact ⟨L, q, hd.below hb, hb0.trans (hb.mono hb0.size), hf, fun r h => ⟨(hr r h).1.below hb, (hr r h).2⟩⟩
theorem MineR.alloc (h : MineR w0 w g s R) (o : Obj) : MineR w0 (w.alloc o) g s R := h.below ((Below.refl _ _).alloc (Nat.le_refl _) o)
theorem MineR.after {L : Nat} {q : Option Nat} (hd : Dk w g L q s) (hb0 : Below w0.heap.size w0 w) (hf : ∀ b, Foot g L q b → w0.heap.size ≤ b) (hr : ∀ r ∈ R, Kept w r.1 r.2 ∧ ¬ Foot g L q r.1) (h : After w w' g L q s') : MineR w0 w' g s' R := by
  obtain ⟨⟨L', q', hd', hb', hf'⟩, _⟩ := Mine.after hd hb0 hf h
  obtain ⟨q1, hd1, hc, hq⟩ := h
  refine ⟨L, q1, hd1, hb', ?_, fun r hR => ⟨(hr r hR).1.chg hc (hr r hR).2, ?_⟩⟩
  · rintro b (rfl | rfl | hb)
    · exact hf b (.inl rfl)
    · exact hf b (.inr (.inl rfl))
    · rcases hq b hb with hb | hb
      · exact hf b (.inr (.inr hb))
      · have := hb0.size; omega
  · have hlt := (Array.getElem?_eq_some_iff.1 (hr r hR).1).1
    rintro (hb | hb | hb)
    · exact (hr r hR).2 (.inl hb)
    · exact (hr r hR).2 (.inr (.inl hb))
    · rcases hq _ hb with hb | hb
      · exact (hr r hR).2 (.inr (.inr hb))
      · omega
theorem write_r (h : MineR w0 w g s R) (i : Int) (A : Option Addr) (n c : Nat) (l : List UInt8) (hl : Hold w A n c l) (hn : n ≤ 281474976710656) (hb : (s.buf.length + 1) * 72 ≤ 140737488355328) :
    Calls Try.prog 11 #[.pointer (some ⟨g, 0, none⟩), .int .i64 i, .slice A n c] w fun e w' => e = .returned (.int .i64 (s.wErr i n)) ∧ MineR w0 w' g (s.wSt i l) R := by
  obtain ⟨L, q, hd, hb0, hf, hr⟩ := h
  exact (write_any w g L q s hd i A n c l hl hn hb).mono fun e w' ⟨h1, h2⟩ => ⟨h1, MineR.after hd hb0 hf hr h2⟩
theorem flush_r (h : MineR w0 w g s R) (hn : s.buf.length ≤ 4611686018427387904) : Calls Try.prog 13 #[.pointer (some ⟨g, 0, none⟩)] w fun e w' => e = .returned (.int .i64 s.fErr) ∧ MineR w0 w' g s.fSt R := by
  obtain ⟨L, q, hd, hb0, hf, hr⟩ := h
  exact (flush_any w g L q s hd hn).mono fun e w' ⟨h1, h2⟩ => ⟨h1, MineR.after hd hb0 hf hr h2⟩
theorem arm_r (h : MineR w0 w g s R) (n : Int) (h1 : -9223372036854775808 ≤ n) (h2 : n ≤ 9223372036854775807) : Calls Try.prog 15 #[.pointer (some ⟨g, 0, none⟩), .int .i64 n] w fun e w' => e = .returned (.tuple #[]) ∧ MineR w0 w' g (s.aSt n) R := by
  obtain ⟨L, q, hd, hb0, hf, hr⟩ := h
  exact (arm_any w g L q s hd n h1 h2).mono fun e w' ⟨h1, h2⟩ => ⟨h1, MineR.after hd hb0 hf hr h2⟩
theorem crash_r (h : MineR w0 w g s R) (k t : Int) (hn : s.buf.length ≤ 4611686018427387904) : Calls Try.prog 17 #[.pointer (some ⟨g, 0, none⟩), .int .i64 k, .int .i64 t] w fun e w' => e = .returned (.tuple #[]) ∧ MineR w0 w' g (s.cSt k t) R := by
  obtain ⟨L, q, hd, hb0, hf, hr⟩ := h
  exact (crash_any w g L q s hd k t hn).mono fun e w' ⟨h1, h2⟩ => ⟨h1, MineR.after hd hb0 hf hr h2⟩
theorem down_r (h : MineR w0 w g s R) : Calls Try.prog 24 #[.pointer (some ⟨g, 0, none⟩)] w fun e w' => e = .returned (.bool (decide (s.left = 0))) ∧ w' = w := by
  obtain ⟨L, q, hd, _⟩ := h
  exact down_any w g L q s hd
theorem read_r (h : MineR w0 w g s R) (i : Int) (hn : s.buf.length ≤ 4611686018427387904) (hr : s.refuse i = 0) :
    Calls Try.prog 20 #[.pointer (some ⟨g, 0, none⟩), .int .i64 i] w fun e w' => ∃ k, e = .returned (.tuple #[.slice (some ⟨k, 0, none⟩) 64 64, .int .i64 0]) ∧ MineR w0 w' g s ((k, s.told i.toNat) :: R) := by
  have h' := h
  obtain ⟨L, q, hd, hb0, hf, hR⟩ := h
  refine (read_any w g L q s hd i hn).mono fun e w' hp => ?_
  unfold ReadPost at hp
  rw [if_pos hr] at hp
  obtain ⟨k, h1, h2, h3, h4⟩ := hp
  refine ⟨k, h1, L, q, hd.below h4, hb0.trans (h4.mono hb0.size), hf, fun r hm => ?_⟩
  rcases List.mem_cons.1 hm with rfl | hm
  · exact ⟨h3, fun e => by have := hd.lt k e; omega⟩
  · exact ⟨(hR r hm).1.below h4, (hR r hm).2⟩
theorem readno_r (h : MineR w0 w g s R) (i : Int) (hn : s.buf.length ≤ 4611686018427387904) (hr : s.refuse i ≠ 0) :
    Calls Try.prog 20 #[.pointer (some ⟨g, 0, none⟩), .int .i64 i] w fun e w' => e = .returned (.tuple #[.slice none 0 0, .int .i64 (s.refuse i)]) ∧ w' = w := by
  obtain ⟨L, q, hd, hb0, hf, hR⟩ := h
  refine (read_any w g L q s hd i hn).mono fun e w' hp => ?_
  unfold ReadPost at hp
  rwa [if_neg hr] at hp
theorem new_r (w0 w : World) (n : Int) (hb : Below w0.heap.size w0 w) : Calls Try.prog 8 #[.int .i64 n] w fun e w' => ∃ g, e = .returned (.pointer (some ⟨g, 0, none⟩)) ∧ MineR w0 w' g (newSt (newN n)) [] := by
  refine (new_mine w0 w n hb).mono ?_
  rintro e w' ⟨g, rfl, ⟨L, q, hd, hb', hf⟩, _, _⟩
  exact ⟨g, rfl, L, q, hd, hb', hf, by simp⟩
end

set_option maxRecDepth 100000 in
set_option maxHeartbeats 2000000 in
theorem awake_any (w : World) : Calls Try.prog 10 #[] w fun e w' => e = .returned (.bool true) ∧ Below w.heap.size w w' := by
  have kc := fun (w : World) (C : Array Value) (n c : Nat) => Lib.run_convert_bytes_const (P := Try.prog) w 28 5 C n c Try.underlying28 Try.underlying5
  go_enter Try.func10, Try.ntmps10
  go_wp2_with fail
  refine (new_r w w 2 (Below.refl _ _)).mono ?_
  rintro e w1 ⟨g, rfl, h1⟩
  rw [newN_two] at h1
  have H1 := Lib.hid h1
  clear h1
  go_wp2_with fail
  refine (write_r (H1.out.alloc _) 0 _ 2 2 [97, 98] (Hold.new w1 [97, 98] 5 _ _ rfl) (by omega) (by rw [aw_b0]; omega)).mono ?_
  rintro e w2 ⟨rfl, h2⟩
  rw [aw_e1]
  have H2 : Hid (MineR w w2 g aw1 []) := h2
  clear h2 H1
  go_wp2_with fail
  refine (write_r (H2.out.alloc _) 0 _ 2 2 [99, 100] (Hold.new w2 [99, 100] 5 _ _ rfl) (by omega) (by rw [aw_b1]; omega)).mono ?_
  rintro e w3 ⟨rfl, h3⟩
  rw [aw_e2]
  have H3 : Hid (MineR w w3 g aw2 []) := h3
  clear h3 H2
  go_wp2_with fail
  refine (read_r H3.out 0 (by rw [aw_b2]; omega) aw_r2).mono ?_
  rintro e w4 ⟨ka, rfl, h4⟩
  have H4 : Hid (MineR w w4 g aw2 [(ka, aw2.told 0)]) := h4
  clear h4 H3
  go_wp2_with fail
  refine (crash_r H4.out 1 1 (by rw [aw_b2]; omega)).mono ?_
  rintro e w5 ⟨rfl, h5⟩
  have H5 : Hid (MineR w w5 g aw3 [(ka, aw2.told 0)]) := h5
  clear h5 H4
  go_wp2_with fail
  refine (read_r H5.out 0 (by rw [aw_b3]; omega) aw_r3).mono ?_
  rintro e w6 ⟨kb, rfl, h6⟩
  have H6 : Hid (MineR w w6 g aw3 [(kb, aw3.told 0), (ka, aw2.told 0)]) := h6
  clear h6 H5
  go_wp2_with fail
  refine (arm_r H6.out 1 (by omega) (by omega)).mono ?_
  rintro e w7 ⟨rfl, h7⟩
  have H7 : Hid (MineR w w7 g aw4 [(kb, aw3.told 0), (ka, aw2.told 0)]) := h7
  clear h7 H6
  go_wp2_with fail
  refine (write_r H7.out 1 none 0 0 [] (Hold.nil _) (by omega) (by rw [aw_b4]; omega)).mono ?_
  rintro e w8 ⟨rfl, h8⟩
  rw [aw_e3]
  have H8 : Hid (MineR w w8 g aw5 [(kb, aw3.told 0), (ka, aw2.told 0)]) := h8
  clear h8 H7
  go_wp2_with fail
  refine (readno_r H8.out 0 (by rw [aw_b5]; omega) (by rw [aw_r5]; decide)).mono ?_
  rintro e w9 ⟨rfl, rfl⟩
  rw [aw_r5]
  have hka : Hold w9 (some ⟨ka, 0, none⟩) 2 64 [99, 100] := by
    obtain ⟨L, q, _, _, _, hr⟩ := H8.out
    rw [← aw_t2]
    exact (hr (ka, aw2.told 0) (by simp)).1.take aw_l2
  have hkb : Hold w9 (some ⟨kb, 0, none⟩) 2 64 [99, 98] := by
    obtain ⟨L, q, _, _, _, hr⟩ := H8.out
    rw [← aw_t3]
    exact (hr (kb, aw3.told 0) (by simp)).1.take aw_l3
  have ca := conv_hold hka
  have cb := conv_hold hkb
  clear hka hkb
  go_wp2_with fail
  refine (down_r H8.out).mono ?_
  rintro e w10 ⟨rfl, rfl⟩
  rw [aw_d5]
  go_wp2_with fail
  go_ret
  exact ⟨rfl, H8.out.b⟩
end Go.Proofs.Ytmajmohnnfjiaaa
