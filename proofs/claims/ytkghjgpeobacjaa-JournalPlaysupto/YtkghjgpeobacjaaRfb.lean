/-
  What is proved: what the document's Frame and Bytes answer. Conditions: bytes and the disk lie in memory as they must, the span lies on the disk.
-/
import Derived.Test.YtkghjgpeobacjaaRput
import Derived.Test.YtkghjgpeobacjaaJb
namespace Go.Proofs.Ytkghjgpeobacjaa
open Go.RowKit

set_option maxRecDepth 100000 in
set_option maxHeartbeats 1000000 in
theorem rframe_any (w : World) (A : Option Addr) (n c : Nat) (l : List UInt8) (h : Hold w A n c l) (hn : n ≤ 1048576) : Calls Try.prog 39 #[.slice A n c] w (NewRow w (frameOf l)) := by
  have H := Lib.hid h
  have hll := Lib.hid h.1
  have hcr := crc_lt l
  clear h
  go_enter Try.func39, Try.ntmps39
  go_wp2_with fail
  refine (digits_any (n : Int) w).mono ?_
  rintro e w1 ⟨v1, rfl, ho1, hb1⟩
  obtain ⟨A1, c1, rfl⟩ := own_form ho1
  have HO1 := Lib.hid ho1
  have HB1 := Lib.hid hb1
  clear ho1 hb1
  go_wp2_with fail
  refine (refSum_any A n c l w1 (H.out.below HB1.out) (by omega)).mono ?_
  rintro e w2 ⟨rfl, rfl⟩
  obtain ⟨z, hz⟩ : ∃ z, z = crc l := ⟨_, rfl⟩
  rw [← hz] at hcr ⊢
  have HZ := Lib.hid hz
  clear hz
  go_wp2_with fail
  refine (digits_any (z : Int) w1).mono ?_
  rintro e w2 ⟨v2, rfl, ho2, hb2⟩
  obtain ⟨A2, c2, rfl⟩ := own_form ho2
  have HO1' := Lib.hid (own_belowG HO1.out hb2)
  have HH2 := Lib.hid (Hold.of_own ho2)
  have HB2 := Lib.hid (HB1.out.trans (hb2.mono HB1.out.size))
  have hfr : dig (n : Int) ++ dig (z : Int) ++ l = frameOf l := by
    rw [HZ.out]
    have := hll.out
    subst this
    rfl
  have HFR := Lib.hid hfr
  clear ho2 hb2 HO1 hfr
  go_wp2_with (first
    | (at_builtin; refine wpList_append_hold rfl (.tmp 7) (.tmp 11) rfl w.heap.size (.slice A1 8 c1) 8 (dig (n : Int)) rfl HO1'.out A2 8 c2 (dig (z : Int)) rfl HH2.out (by omega) HB2.out.size ?_; intro A3 c3 w3 hown3 hgrow3; have HO3 := Lib.hid hown3; have HB3 := Lib.hid (HB2.out.grown hgrow3 HB2.out.size (fun k hk => (HO1'.out.lt k hk).1)); clear hown3 hgrow3)
    | (at_builtin; refine wpList_append_hold rfl (.tmp 13) (.tmp 14) rfl w.heap.size (.slice A3 (8 + 8) c3) (8 + 8) (dig (n : Int) ++ dig (z : Int)) rfl HO3.out A n c l rfl (H.out.below HB3.out) (by omega) HB3.out.size ?_; intro A4 c4 w4 hown4 hgrow4; have HO4 := Lib.hid hown4; have HB4 := Lib.hid (HB3.out.grown hgrow4 HB3.out.size (fun k hk => (HO3.out.lt k hk).1)); clear hown4 hgrow4))
  go_ret
  refine ⟨A4, _, c4, rfl, ?_, HB4.out⟩
  have := HO4.out
  rw [HFR.out] at this
  exact this

/-- the first bytes of a row -/
theorem own_take {w : World} {base N n c : Nat} {A : Option Addr} {l : List UInt8} (h : w.ownsRow base 5 1 (.slice A N c) N (bv l)) (hn : n ≤ N) : w.ownsRow base 5 1 (.slice A n c) n (bv (l.take n)) := by
  have hl : l.length = N := by simpa [bv_length] using h.1
  refine ⟨by rw [bv_length, List.length_take]; omega, ?_⟩
  rcases h.2 with ⟨hv, h0⟩ | ⟨g, cap, cur, hv, hb, hg, k1, k2, k3, k4⟩
  · injection hv with e1 e2 e3
    subst e1 e3
    exact .inl ⟨by congr 1; omega, by omega⟩
  · injection hv with e1 e2 e3
    subst e1 e3
    refine .inr ⟨g, c, cur, rfl, hb, hg, by omega, k2, k3, ?_⟩
    have e : bv (l.take n) = (bv l).take n := by simp [bv, List.map_take]
    rw [e, ← k4, List.take_take, Nat.mul_one, Nat.mul_one, Nat.min_eq_left hn]
def BytesPost (w : World) (l : List UInt8) (n : Nat) (e : Ending) (w' : World) : Prop := ∃ A c, e = .returned (.slice A n c) ∧ w'.ownsRow w.heap.size 5 1 (.slice A n c) n (bv l) ∧ Below w.heap.size w w'

set_option maxRecDepth 100000 in
set_option maxHeartbeats 1000000 in
theorem rbytes_any (w : World) (m mp : Nat) (q : Option Nat) (bs : List RB) (s : D) (u : Nat) (h : Rk w m mp q bs s u) (fr n N : Nat) (hN : N = (n + 63) / 64) (hin : fr + N ≤ s.last.length) (hbs : bs.length ≤ 1048576) :
    Calls Try.prog 35 #[.pointer (some ⟨m, 0, none⟩), .int .i64 (fr : Int), .int .i64 (n : Int)] w (BytesPost w ((s.bytes fr N).take n) n) := by
  have H := Lib.hid h
  have hmost := h.ok.most
  clear h
  go_enter Try.func35, Try.ntmps35
  go_wp2_with fail
  go_loopw [7, 8] (fun v i wr => ∃ k A c, k ≤ N ∧ i = .int .i64 ((fr : Int) + (k : Int)) ∧ v = .slice A (64 * k) c ∧ wr.ownsRow w.heap.size 5 1 (.slice A (64 * k) c) (64 * k) (bv (s.bytes fr k)) ∧ Below w.heap.size w wr) (fun _ i _ => N + fr - (intOf i).toNat)
  case atStart => exact ⟨0, none, 0, by omega, by simp, rfl, World.ownsRow_nil _ _ _ _, Below.refl _ _⟩
  case round =>
    obtain ⟨k, A, c, hk, rfl, rfl, hown, hb⟩ := hrel
    have HO := Lib.hid hown
    have HB := Lib.hid hb
    clear hown hb
    by_cases hlt : k < N
    · have hc : (64 * (k : Int)) < (n : Int) := by omega
      have hT := rtold_any wr m mp q bs s u (H.out.below HB.out) (fr + k) (by omega) hbs
      rw [Int.natCast_add] at hT
      have HT := Lib.hid hT
      have hbs2 := Lib.hid (D.bytes_succ s fr k)
      have htl := H.out.ok.told_len (i := fr + k) (by omega)
      clear hT
      go_wp2_with fail
      refine HT.out.mono ?_
      rintro e w1 ⟨kb, rfl, hkb, hk1, hb1⟩
      have hho := Hold.block hk1 64 htl.symm
      have HHO := Lib.hid hho
      have HO1 := Lib.hid (own_belowG HO.out hb1)
      have HB1 := Lib.hid (HB.out.trans (hb1.mono HB.out.size))
      clear hk1 hb1 hho
      go_wp2_with (at_builtin; refine wpList_append_hold rfl (.tmp 16) (.tmp 19) rfl w.heap.size (.slice A (64 * k) c) (64 * k) (s.bytes fr k) rfl HO1.out (some ⟨kb, 0, none⟩) 64 64 (s.told (fr + k)) rfl HHO.out (by omega) HB1.out.size ?_; intro A2 c2 w2 hown2 hgrow2; rw [← hbs2.out] at hown2; have HO2 := Lib.hid hown2; have HB2 := Lib.hid (HB1.out.grown hgrow2 HB1.out.size (fun k hk => (HO1.out.lt k hk).1)); clear hown2 hgrow2)
      go_roundw
      case rel => exact ⟨k + 1, A2, c2, by omega, by congr 1, by congr 1, by rw [Nat.mul_succ]; exact HO2.out, HB2.out⟩
      case measure => simp only [intOf]; omega
    · obtain rfl : N = k := by omega
      have hc : ¬ (64 * (N : Int)) < (n : Int) := by omega
      have hcap := (Hold.of_own HO.out).2.1
      have hnc : (n : Int) ≤ (c : Int) := by omega
      have HF := Lib.hid (own_take HO.out (n := n) (by omega))
      clear hN
      go_wp2_with fail
      go_ret
      exact ⟨A, c, rfl, HF.out, HB.out⟩
end Go.Proofs.Ytkghjgpeobacjaa
