/-
  What is proved: what the document's disk tells of a sector, told by the same lists.
-/
import Derived.Test.YtkghjgpeobacjaaRef
namespace Go.Proofs.Ytkghjgpeobacjaa
open Go.RowKit
open Go.Maps (Keyed int_keyed keyOf_int_mk IsMap)

theorem zero9 (w : World) : (zeroValue 9).run Try.prog w = .ok (.string ByteArray.empty) w := by kernel_rfl
theorem key3 (p : Nat) (hp : p < 65536) : keyOf Try.prog 3 (.int .i64 (p : Int)) = some (.int .i64 (p : Int)) :=
  keyOf_int_mk Try.underlying3 (WalkArith.wf_i64 (by omega))

set_option maxRecDepth 100000 in
theorem map_look {w : World} {mp n : Nat} {Dm : DataW Unit} {last : List (List UInt8)} (hM : w.ownsMap Try.prog 3 RE mp n Dm) (hO : MapOk Dm last) {p : Nat} (hp : p < last.length) (hl : last.length ≤ 65536) :
    ∃ l : List UInt8, (Instr.lookup 50 (.map (some mp)) (.int .i64 (p : Int)) false).run Try.prog w = .ok (.string ⟨l.toArray⟩) w ∧ l.length ≤ 64 ∧ pad l = last[p] := by
  obtain ⟨l, h1, h2, h3⟩ := hO p hp
  have hz : RE (.string ByteArray.empty) = some (.lit (.string []), []) := plainElem_string Try.underlying9 (by decide)
  obtain ⟨v, ps, hrun, hv⟩ := hM.lookup law3 Try.underlying50 (zero9 w) hz (key3 p (by omega))
  rw [h1] at hv
  obtain ⟨str, rfl, he, _⟩ := plainElem_string_inv Try.underlying9 hv
  simp only [Prod.mk.injEq, DataW.lit.injEq, Lit.string.injEq] at he
  refine ⟨l, ?_, h2, h3⟩
  rw [hrun]
  congr 2
  rw [he.1]

/-- '[]byte(text)' -/
theorem conv_text (w : World) (l : List UInt8) : ∃ X cap, (convert 9 37 (.string ⟨l.toArray⟩)).run Try.prog w = .ok (.slice (some ⟨w.heap.size, 0, none⟩) l.length cap) X ∧ Hold X (some ⟨w.heap.size, 0, none⟩) l.length cap l ∧ Below w.heap.size w X := by
  have hr := run_bytes_of_string (P := Try.prog) w 9 37 5 ⟨l.toArray⟩ Try.underlying9 Try.underlying37 Try.underlying5
  have hsz : (⟨l.toArray⟩ : ByteArray).size = l.length := by show l.toArray.size = _; simp
  rw [hsz] at hr
  refine ⟨_, _, hr, ⟨rfl, ?_, (fun e => by cases e), fun _ => ⟨w.heap.size, 0, rfl, fun j hj => ?_⟩⟩, ((Below.refl _ _).drew).alloc (Nat.le_refl _) _⟩
  · exact grownCap_ge w l.length 0 5
  · have hh := heap_alloc_new w.drew (.cells (bytesRow ⟨l.toArray⟩ (grownCap w l.length 0 5)) 5 ((bytesRow ⟨l.toArray⟩ (grownCap w l.length 0 5)).size, (bytesRow ⟨l.toArray⟩ (grownCap w l.length 0 5)).size + 1))
    rw [cell_of_row _ w.heap.size (0 + j) _ 5 _ hh]
    simp [bytesRow, Array.getElem?_append, hj]

set_option maxHeartbeats 1000000 in
theorem lasting_any (w : World) (m mp : Nat) (q : Option Nat) (bs : List RB) (s : D) (u : Nat) (h : Rk w m mp q bs s u) (p : Nat) (hp : p < s.last.length) : Calls Try.prog 42 #[.pointer (some ⟨m, 0, none⟩), .int .i64 (p : Int)] w (WholePost w s.last[p]) := by
  have hmost := h.ok.most
  obtain ⟨A, c, n, Dm, hm, hM, hn, hI, hO, hB, hq⟩ := h.form
  obtain ⟨l, hlook, hl, hpad⟩ := map_look hM hO hp hmost
  obtain ⟨_, c1, _, _, _, _⟩ := five_cells hm
  obtain ⟨X, cap, hconv, hX, hbX⟩ := conv_text w l
  have HX := Lib.hid hX
  have HB := Lib.hid hbX
  have HP := Lib.hid hpad
  have HL := Lib.hid hl
  clear h hm hM hO hB hpad hl hX hbX
  go_enter Try.func42, Try.ntmps42
  go_wp2_with fail
  refine (whole_any X _ _ _ l HX.out HL.out).mono ?_
  rintro e w2 ⟨k, rfl, hk, hc, hb⟩
  rw [HP.out] at hc
  have HC := Lib.hid hc
  have HB2 := Lib.hid (HB.out.trans (hb.mono HB.out.size))
  have hk' : w.heap.size ≤ k := Nat.le_trans HB.out.size hk
  clear hc hb hk
  go_wp2_with fail
  go_ret
  exact ⟨k, rfl, hk', HC.out, HB2.out⟩

theorem rrow_range {w : World} {Q c n : Nat} {bs : List RB} (h : w.ownsRow 0 90 2 (.slice (some ⟨Q, 0, none⟩) n c) n (rrow bs)) {k : Nat} (hk : k < bs.length) : w.rangeAt Q (k * 2) (rbV bs[k]) := by
  refine own_range h _ _ fun j v hv => ?_
  have hj : j < 2 := by
    have := (List.getElem?_eq_some_iff.1 hv).1
    simpa [rbV] using this
  unfold rrow
  rw [flat_get 2 _ (by intro x hx; obtain ⟨y, _, rfl⟩ := List.mem_map.1 hx; rfl) k j (by simpa using hk) hj]
  simpa using hv
/-- the k-th write's cells -/
theorem Rk.at {w : World} {m mp : Nat} {q : Option Nat} {bs : List RB} {s : D} {u : Nat} (h : Rk w m mp q bs s u) {k : Nat} (hk : k < bs.length) : ∃ Q c, w.cell? ⟨m, 2, none⟩ = some (.slice (some ⟨Q, 0, none⟩) bs.length c) ∧ w.cell? ⟨Q, k * 2, none⟩ = some (.int .i64 (bs[k].1 : Int)) ∧ w.cell? ⟨Q, k * 2 + 1, none⟩ = some (.slice (some ⟨bs[k].2.1, 0, none⟩) 64 64) ∧
    Hold w (some ⟨bs[k].2.1, 0, none⟩) 64 64 bs[k].2.2 ∧ bs[k].1 < s.last.length ∧ bs[k].2.2.length = 64 ∧ q = some Q := by
  have hw := h.ok.wr
  have hdt := h.data
  have hbuf := h.buf
  obtain ⟨A, c, n, Dm, hm, hM, hn, hI, hO, hB, hq⟩ := h.form
  obtain ⟨_, _, c2, _, _, _⟩ := five_cells hm
  obtain ⟨Q, rfl⟩ := own_some hB (by omega)
  have hr := rrow_range hB hk
  have hmem := List.getElem_mem hk
  have hwr := hw (bs[k].1, bs[k].2.2) (by rw [hbuf]; exact List.mem_map.2 ⟨_, hmem, rfl⟩)
  exact ⟨Q, c, c2, hr 0 _ rfl, hr 1 _ rfl, Hold.block (hdt _ hmem) 64 hwr.2.symm, hwr.1, hwr.2, hq.symm⟩
theorem settle_in {last : List (List UInt8)} {b : List (Nat × List UInt8)} {k i : Nat} (hk : k < b.length) (hi : i < last.length) : (settle last (b.take (k + 1)))[i]?.getD [] = if b[k].1 = i then b[k].2 else (settle last (b.take k))[i]?.getD [] := by
  rw [settle_take _ _ _ hk]
  by_cases h : b[k].1 = i
  · rw [if_pos h, h]
    simp [settle_length, hi]
  · rw [if_neg h, List.getElem?_set_ne h]

set_option maxRecDepth 100000 in
set_option maxHeartbeats 1000000 in
theorem rtold_any (w : World) (m mp : Nat) (q : Option Nat) (bs : List RB) (s : D) (u : Nat) (h : Rk w m mp q bs s u) (i : Nat) (hi : i < s.last.length) (hn : bs.length ≤ 1048576) : Calls Try.prog 48 #[.pointer (some ⟨m, 0, none⟩), .int .i64 (i : Int)] w (WholePost w (s.told i)) := by
  have H := Lib.hid h
  have hbuf := Lib.hid h.buf
  have hlen : s.buf.length = bs.length := by rw [h.buf]; simp [rbuf]
  have h0 : s.last[i] = (settle s.last (s.buf.take 0))[i]?.getD [] := by rw [List.take_zero]; simp [settle, hi]
  have H0 := Lib.hid h0
  have HLEN := Lib.hid hlen
  clear h h0 hlen
  go_enter Try.func48, Try.ntmps48
  go_wp2_with fail
  refine (lasting_any w m mp q bs s u H.out i hi).mono ?_
  rintro e w1 ⟨k0, rfl, hk0, hc0, hb0⟩
  rw [H0.out] at hc0
  have HC0 := Lib.hid hc0
  have HB0 := Lib.hid hb0
  clear hc0 hb0
  go_wp2_with fail
  go_loopw [5, 6] (fun v i' wr => ∃ (j kk : Nat), j ≤ bs.length ∧ i' = .int .i64 (j : Int) ∧ v = .slice (some ⟨kk, 0, none⟩) 64 64 ∧ w.heap.size ≤ kk ∧ wr.heap[kk]? = some (.cells (bv ((settle s.last (s.buf.take j))[i]?.getD [])).toArray 5 (0, 0)) ∧ Below w.heap.size w wr) (fun _ i' _ => bs.length - (intOf i').toNat)
  case atStart => exact ⟨0, k0, by omega, rfl, rfl, hk0, HC0.out, HB0.out⟩
  case round =>
    obtain ⟨j, kk, hj, rfl, rfl, hkk, hck, hbk⟩ := hrel
    have HCK := Lib.hid hck
    have HBK := Lib.hid hbk
    have HR := Lib.hid (H.out.below hbk)
    clear hck hbk HC0 HB0
    by_cases hlt : j < bs.length
    · obtain ⟨Q, c, c2, cp, cd, hh, hpl, hpx, _⟩ := HR.out.at hlt
      have hjb : j < s.buf.length := by rw [HLEN.out]; exact hlt
      have hbj : s.buf[j] = (bs[j].1, bs[j].2.2) := by simp [hbuf.out, rbuf]
      have hse := settle_in (last := s.last) hjb hi
      rw [hbj] at hse
      simp only at hse
      generalize bs[j] = x at *
      obtain ⟨px, kx, lx⟩ := x
      simp only at cp cd hh hpl hpx hse
      have HH := Lib.hid hh
      have HSE := Lib.hid hse
      have hj0 : (0 : Int) ≤ (j : Int) := Int.natCast_nonneg _
      have hj1 : (j : Int) < (bs.length : Int) := by omega
      clear hh hse hbj
      by_cases hp : px = i
      · subst hp
        go_wp2_with fail
        refine (whole_any wr _ _ _ lx HH.out (by omega)).mono ?_
        rintro e w2 ⟨k2, rfl, hk2, hc2, hb2⟩
        have hpad : pad lx = lx := by simp [pad, hpx]
        rw [hpad] at hc2
        have HC2 : Hid (w2.heap[k2]? = some (.cells (bv ((settle s.last (s.buf.take (j + 1)))[px]?.getD [])).toArray 5 (0, 0))) := by
          show _ = _
          rw [HSE.out, if_pos trivial]
          exact hc2
        have HB2 := Lib.hid (HBK.out.trans (hb2.mono HBK.out.size))
        have hk3 : w.heap.size ≤ k2 := Nat.le_trans HBK.out.size hk2
        clear hc2 hb2 hk2 hpad
        go_wp2_with fail
        go_roundw
        case rel => exact ⟨j + 1, k2, by omega, by go_num, rfl, hk3, HC2.out, HB2.out⟩
        case measure => simp [intOf]; omega
      · have hp' : ¬ (px : Int) = (i : Int) := by omega
        have HC2 : Hid (wr.heap[kk]? = some (.cells (bv ((settle s.last (s.buf.take (j + 1)))[i]?.getD [])).toArray 5 (0, 0))) := by
          show _ = _
          rw [HSE.out, if_neg hp]
          exact HCK.out
        clear HSE HCK
        go_wp2_with fail
        go_roundw
        case rel => exact ⟨j + 1, kk, by omega, by go_num, rfl, hkk, HC2.out, HBK.out⟩
        case measure => simp [intOf]; omega
    · obtain rfl : j = bs.length := by omega
      have hfin : wr.heap[kk]? = some (.cells (bv (s.told i)).toArray 5 (0, 0)) := by
        have := HCK.out
        rw [← HLEN.out, List.take_length] at this
        exact this
      have HF := Lib.hid hfin
      obtain ⟨A, c, n, Dm, hm, _⟩ := HR.out.form
      obtain ⟨_, _, c2, _, _, _⟩ := five_cells hm
      clear hfin HCK hm
      go_wp2_with fail
      go_ret
      exact ⟨kk, rfl, hkk, HF.out, HBK.out⟩

/-- what the document's Read answers -/
def RReadPost (w : World) (s : D) (i : Int) (e : Ending) (w' : World) : Prop :=
  if s.refuse i = 0 then ∃ k, e = .returned (.tuple #[.slice (some ⟨k, 0, none⟩) 64 64, .int .i64 0]) ∧ w.heap.size ≤ k ∧ w'.heap[k]? = some (.cells (bv (s.told i.toNat)).toArray 5 (0, 0)) ∧ Below w.heap.size w w'
  else e = .returned (.tuple #[.slice none 0 0, .int .i64 (s.refuse i)]) ∧ w' = w

set_option maxRecDepth 100000 in
set_option maxHeartbeats 1000000 in
theorem rread_any (w : World) (m mp : Nat) (q : Option Nat) (bs : List RB) (s : D) (u : Nat) (h : Rk w m mp q bs s u) (i : Int) (hn : bs.length ≤ 1048576) : Calls Try.prog 27 #[.pointer (some ⟨m, 0, none⟩), .int .i64 i] w (RReadPost w s i) := by
  obtain ⟨A, c, k, Dm, hm, _⟩ := h.form
  obtain ⟨c0, _, _, _, c4, _⟩ := five_cells hm
  by_cases h0 : s.left = 0
  · have hr : s.refuse i = 32 := by unfold D.refuse; rw [if_pos h0]
    have fin : RReadPost w s i (.returned (.tuple #[.slice none 0 0, .int .i64 32])) w := by
      unfold RReadPost
      rw [if_neg (by rw [hr]; decide), hr]
      exact ⟨rfl, rfl⟩
    have HF := Lib.hid fin
    have hd : decide (s.left = 0) = true := by simp [h0]
    rw [hd] at c4
    clear h hm fin hr hd
    go_enter Try.func27, Try.ntmps27
    go_wp2_with fail
    go_ret2
    exact HF.out
  · have hd : decide (s.left = 0) = false := by simp [h0]
    rw [hd] at c4
    by_cases hr : i < 0 ∨ (s.last.length : Int) ≤ i
    · have hrf : s.refuse i = 31 := by unfold D.refuse; rw [if_neg h0, if_pos hr]
      have fin : RReadPost w s i (.returned (.tuple #[.slice none 0 0, .int .i64 31])) w := by
        unfold RReadPost
        rw [if_neg (by rw [hrf]; decide), hrf]
        exact ⟨rfl, rfl⟩
      have HF := Lib.hid fin
      clear h hm fin hrf hd
      by_cases hi : i < 0
      · clear hr
        go_enter Try.func27, Try.ntmps27
        go_wp2_with fail
        go_ret2
        exact HF.out
      · have hi2 : (s.last.length : Int) ≤ i := by omega
        clear hr
        go_enter Try.func27, Try.ntmps27
        go_wp2_with fail
        go_ret2
        exact HF.out
    · have hrf : s.refuse i = 0 := by unfold D.refuse; rw [if_neg h0, if_neg hr]
      obtain ⟨p, rfl⟩ := Int.eq_ofNat_of_zero_le (show 0 ≤ i by omega)
      have hpl : p < s.last.length := by omega
      have HT := Lib.hid (rtold_any w m mp q bs s u h p hpl hn)
      have HF : Hid (∀ k w', w.heap.size ≤ k → w'.heap[k]? = some (.cells (bv (s.told p)).toArray 5 (0, 0)) → Below w.heap.size w w' → RReadPost w s p (.returned (.tuple #[.slice (some ⟨k, 0, none⟩) 64 64, .int .i64 0])) w') := fun k w' a b c => by
        unfold RReadPost
        rw [if_pos hrf]
        exact ⟨k, rfl, a, b, c⟩
      have hi1 : ¬ (p : Int) < 0 := by omega
      have hi2 : ¬ (s.last.length : Int) ≤ (p : Int) := by omega
      clear h hm hrf hd hr
      go_enter Try.func27, Try.ntmps27
      go_wp2_with fail
      refine HT.out.mono ?_
      rintro e w2 ⟨k2, rfl, hk2, hc2, hb2⟩
      have H2 := Lib.hid (HF.out k2 w2 hk2 hc2 hb2)
      clear hc2 hb2 HF HT
      go_wp2_with fail
      go_ret2
      exact H2.out
end Go.Proofs.Ytkghjgpeobacjaa
