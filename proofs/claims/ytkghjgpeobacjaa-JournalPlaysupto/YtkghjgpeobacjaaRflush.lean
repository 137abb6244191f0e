/-
  What is proved: what the document's Flush and Crash leave, told by the same lists.
-/
import Derived.Test.YtkghjgpeobacjaaRtold
namespace Go.Proofs.Ytkghjgpeobacjaa
open Go.RowKit
open Go.Maps (Keyed int_keyed keyOf_int_mk IsMap atKey_put_same atKey_put_other)

theorem text_reads (x : List UInt8) (h : x.length ≤ 64) : RE (.string ⟨x.toArray⟩) = some (.lit (.string x), []) := by
  have := plainElem_string (H := Unit) Try.underlying9 (s := ⟨x.toArray⟩) (by show x.toArray.size ≤ _; simp [maxLen]; omega)
  exact this
theorem MapOk.put {Dm : DataW Unit} {last : List (List UInt8)} (hI : IsMap Dm) (h : MapOk Dm last) {p : Nat} {x : List UInt8} (hx : x.length = 64) : MapOk (Dm.put (.int .i64 (p : Int)) (.lit (.string x))) (last.set p x) := by
  intro i hi
  have hi' : i < last.length := by simpa using hi
  by_cases e : i = p
  · subst e
    refine ⟨x, atKey_put_same hI (by simp [WideAt.IsKeyLit]) _ _, by omega, ?_⟩
    simp [pad, hx]
  · obtain ⟨l, h1, h2, h3⟩ := h i hi'
    refine ⟨l, ?_, h2, ?_⟩
    · rw [atKey_put_other (by intro e'; injection e' with _ e'; omega)]
      exact h1
    · rw [List.getElem_set_ne (by omega)]
      exact h3
/-- a sector is laid into the map -/
theorem Rk.upd {w : World} {m mp : Nat} {q : Option Nat} {bs : List RB} {s : D} {u : Nat} (h : Rk w m mp q bs s u) {p : Nat} {x : List UInt8} (hx : x.length = 64) :
    ∃ n Dm, w.ownsMap Try.prog 3 RE mp n Dm ∧ n ≤ u ∧ ∀ w1, w1.ownsMap Try.prog 3 RE mp (n + 1) (Dm.put (.int .i64 (p : Int)) (.lit (.string x))) → w.grownBy w1 (some mp) → Rk w1 m mp q bs ⟨s.last.set p x, s.buf, s.left⟩ (u + 1) ∧ Chg (RFoot m mp q) w w1 := by
  have ha := h.apart
  have hlt := h.lt
  have ok := h.ok
  obtain ⟨A, c, n, Dm, hm, hM, hn, hI, hO, hB, hq⟩ := h.form
  refine ⟨n, Dm, hM, hn, fun w1 hM1 hg => ⟨?_, ⟨hg.os, hg.tape, hg.output, hg.size, fun b hb hnf => hg.block b hb (fun e => hnf (Or.inr (Or.inl (by injection e))))⟩⟩⟩
  have hlen : (s.last.set p x).length = s.last.length := by simp
  have keep : ∀ b, b < w.heap.size → b ≠ mp → w1.heap[b]? = w.heap[b]? := fun b hb hne => hg.block b hb (fun e => hne (by injection e))
  refine ⟨⟨mem_set_len ok.sec _ _ hx, by rw [hlen]; exact ok.wr, by rw [hlen]; exact ok.pos, by rw [hlen]; exact ok.most, ok.lo, ok.hi⟩, ⟨_, n + 1, _, ?_, hM1, by omega, hI.put _ _, hO.put hI hx, own_keep hB (fun b hb => keep b (hB.lt b hb).2 (fun e => ha.2.2.1 (by rw [← hq, hb, e]))), hq⟩, h.buf, fun y hy => ?_⟩
  · rw [keep m (hlt m rfoot_m) ha.1, hlen]
    exact hm
  · rw [keep _ (Array.getElem?_eq_some_iff.1 (h.data y hy)).1 (fun e => ha.2.2.2 y hy (Or.inr (Or.inl e)))]
    exact h.data y hy

set_option maxRecDepth 100000 in
set_option maxHeartbeats 2000000 in
theorem rflush_any (w : World) (m mp : Nat) (q : Option Nat) (bs : List RB) (s : D) (u : Nat) (h : Rk w m mp q bs s u) (hn : bs.length ≤ 1048576) (hu : u ≤ 4611686018427387904) : Calls Try.prog 40 #[.pointer (some ⟨m, 0, none⟩)] w fun e w' => e = .returned (.int .i64 s.fErr) ∧ RAfter w w' m mp q s.fSt (u + bs.length) := by
  have H := Lib.hid h
  have hbuf := Lib.hid h.buf
  have hlen : s.buf.length = bs.length := by rw [h.buf]; simp [rbuf]
  have HLEN := Lib.hid hlen
  obtain ⟨A, c, k, Dm, hm, _⟩ := h.form
  obtain ⟨_, _, c2, _, c4, _⟩ := five_cells hm
  clear h hm hlen
  by_cases h0 : s.left = 0
  · have hs : s.fSt = s := by unfold D.fSt; rw [if_pos h0]
    have he : s.fErr = 32 := by unfold D.fErr; rw [if_pos h0]
    have hd : decide (s.left = 0) = true := by simp [h0]
    have HU : Hid (RAfter w w m mp q s (u + bs.length)) := ⟨q, bs, by
      obtain ⟨ok, ⟨v, n, D', a1, a2, a3, a4⟩, b1, b2⟩ := H.out
      exact ⟨ok, ⟨v, n, D', a1, a2, by omega, a4⟩, b1, b2⟩, Chg.refl _ _, fun _ h => .inl h⟩
    rw [hd] at c4
    rw [hs, he]
    clear hd hs he
    go_enter Try.func40, Try.ntmps40
    go_wp2_with fail
    go_ret
    exact ⟨rfl, HU.out⟩
  · have hs : s.fSt = ⟨settle s.last s.buf, [], tick s.left⟩ := by unfold D.fSt; rw [if_neg h0]
    have he : s.fErr = 0 := by unfold D.fErr; rw [if_neg h0]
    have hd : decide (s.left = 0) = false := by simp [h0]
    rw [hd] at c4
    rw [hs, he]
    clear hd hs he
    go_enter Try.func40, Try.ntmps40
    go_wp2_with fail
    clear c2 c4
    go_loopw [3] (fun i wr => ∃ j : Nat, j ≤ bs.length ∧ i = .int .i64 (j : Int) ∧ Rk wr m mp q bs ⟨settle s.last (s.buf.take j), s.buf, s.left⟩ (u + j) ∧ Chg (RFoot m mp q) w wr) (fun i _ => bs.length - (intOf i).toNat)
    case atStart => exact ⟨0, by omega, rfl, by rw [List.take_zero]; exact H.out, Chg.refl _ _⟩
    case round =>
      obtain ⟨j, hj, rfl, hR, hC⟩ := hrel
      have HR := Lib.hid hR
      have HC := Lib.hid hC
      clear hR hC
      by_cases hlt : j < bs.length
      · obtain ⟨Q, c5, d2, cp, cd, hh, hpl, hpx, _⟩ := HR.out.at hlt
        obtain ⟨A6, c6, n6, Dm6, hm6, _⟩ := HR.out.form
        obtain ⟨_, d1, _, _, _, _⟩ := five_cells hm6
        have hjb : j < s.buf.length := by rw [HLEN.out]; exact hlt
        have hbj : s.buf[j] = (bs[j].1, bs[j].2.2) := by simp [hbuf.out, rbuf]
        have hst := settle_take s.last s.buf j hjb
        rw [hbj] at hst
        simp only at hst hpl
        generalize bs[j] = x at *
        obtain ⟨px, kx, lx⟩ := x
        simp only at cp cd hh hpl hpx hst
        rw [settle_length] at hpl
        have hmost := H.out.ok.most
        have HH := Lib.hid hh
        have HST := Lib.hid hst
        have hj0 : (0 : Int) ≤ (j : Int) := Int.natCast_nonneg _
        have hj1 : (j : Int) < (bs.length : Int) := by omega
        clear hh hst hbj hm6
        go_wp2_with fail
        obtain ⟨X, hX⟩ : ∃ X, X = wr.drew := ⟨_, rfl⟩
        have hRX : Rk X m mp q bs ⟨settle s.last (s.buf.take j), s.buf, s.left⟩ (u + j) := by rw [hX]; exact HR.out.drew
        have e1 : X.cell? ⟨m, 1, none⟩ = some (.map (some mp)) := by rw [hX]; exact d1
        have e2 : X.cell? ⟨m, 2, none⟩ = some (.slice (some ⟨Q, 0, none⟩) bs.length c5) := by rw [hX]; exact d2
        have e3 : X.cell? ⟨Q, j * 2, none⟩ = some (.int .i64 (px : Int)) := by rw [hX]; exact cp
        have e4 : X.cell? ⟨Q, j * 2 + 1, none⟩ = some (.slice (some ⟨kx, 0, none⟩) 64 64) := by rw [hX]; exact cd
        have cv := conv_hold (w := X) (l := lx) (by rw [hX]; exact HH.out.drew)
        obtain ⟨n7, Dm7, hM7, hn7, hup⟩ := hRX.upd (p := px) hpx
        have HM7 := Lib.hid hM7
        have HUP := Lib.hid hup
        have HCX : Hid (Chg (RFoot m mp q) w X) := by rw [hX]; exact HC.out.drew
        refine wp_region_tail 21 X hX (by kernel_rfl) (by kernel_rfl) ?_
        clear hX hRX hM7 hup HR HC d1 d2 cp cd HH
        simp only [List.take_succ_cons, List.take_zero, List.drop_succ_cons, List.drop_zero]
        iterate 21 still_step
        refine wpStill_nil ?_
        refine wpList_mapUpdate_own X rfl (.tmp 20) (.tmp 28) (.tmp 37) 50 rfl 3 9 law3 Try.underlying50 RE mp n7 Dm7 rfl HM7.out (by unfold maxLen; omega) _ _ _ rfl rfl (key3 px (by omega)) _ [] (text_reads lx (by omega)) ?_
        intro w5 hown5 hgrow5
        obtain ⟨hR5, hC5⟩ := HUP.out w5 hown5 hgrow5
        have HR5 : Hid (Rk w5 m mp q bs ⟨settle s.last (s.buf.take (j + 1)), s.buf, s.left⟩ (u + (j + 1))) := by
          rw [HST.out]
          exact hR5
        have HC5 := Lib.hid (HCX.out.trans hC5 (fun _ _ h => h))
        clear hR5 hC5 hown5 hgrow5 HUP HM7 HCX cv e1 e2 e3 e4
        go_wp2_with fail
        go_roundw
        case rel => exact ⟨j + 1, by omega, by go_num, HR5.out, HC5.out⟩
        case measure => simp [intOf]; omega
      · obtain rfl : j = bs.length := by omega
        have hRf : Rk wr m mp q bs ⟨settle s.last s.buf, s.buf, s.left⟩ (u + bs.length) := by
          have := HR.out
          rw [← HLEN.out, List.take_length] at this
          rw [← HLEN.out]
          exact this
        have HRf := Lib.hid hRf
        obtain ⟨A6, c6, n6, Dm6, hm6, _⟩ := hRf.form
        obtain ⟨_, _, d2, _, _, f6⟩ := five_cells hm6
        have f2 := f6 2
        have HN := Lib.hid hRf.nobuf
        have HCN := Lib.hid (chg_m (j := 2) (v := .slice none 0 0) (rfoot_m (mp := mp) (q := q)) HC.out)
        clear hRf hm6 f6 HR HC
        go_wp2_with fail
        generalize wr.setCell ⟨m, 2, none⟩ (.slice none 0 0) = Y at *
        refine (change_any Y m mp none [] _ _ HN.out).mono ?_
        rintro e w8 ⟨rfl, hd8, hc8⟩
        have H8 := Lib.hid hd8
        have HC8 := Lib.hid (HCN.out.trans hc8 (fun x _ hx => by rcases hx with rfl | rfl | hx; exact Or.inl rfl; exact Or.inr (Or.inl rfl); cases hx))
        clear hd8 hc8
        go_wp2_with fail
        go_ret
        exact ⟨rfl, none, [], H8.out, HC8.out, fun _ h => by cases h⟩
end Go.Proofs.Ytkghjgpeobacjaa
