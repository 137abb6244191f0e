/-
  What is proved: what the document's Crash leaves, told by the same lists.
-/
import Derived.Test.YtkghjgpeobacjaaRflush
namespace Go.Proofs.Ytkghjgpeobacjaa
open Go.RowKit
open Go.Maps (Keyed int_keyed keyOf_int_mk IsMap atKey_put_same atKey_put_other)

theorem tear_step2 (xp x0 : List UInt8) (j : Nat) (hj : j < 64) (h1 : xp.length = 64) (h2 : x0.length = 64) : (tear xp x0 j).set j (xp[j]'(by omega)) = tear xp x0 (j + 1) := by
  unfold tear
  apply List.ext_getElem?
  intro i
  rw [List.getElem?_set]
  by_cases hij : j = i
  · subst hij
    rw [if_pos rfl, if_pos (by simp; omega), List.getElem?_append_left (by simp; omega), List.getElem?_take, if_pos (by omega), List.getElem?_eq_getElem (by omega)]
  · rw [if_neg hij]
    by_cases hi : i < j
    · rw [List.getElem?_append_left (by simp; omega), List.getElem?_append_left (by simp; omega), List.getElem?_take, List.getElem?_take, if_pos hi, if_pos (by omega)]
    · rw [List.getElem?_append_right (by simp; omega), List.getElem?_append_right (by simp; omega), List.length_take, List.length_take, List.getElem?_drop, List.getElem?_drop]
      congr 1
      omega
theorem tear_len2 (xp x0 : List UInt8) (j : Nat) (hj : j ≤ 64) (h1 : xp.length = 64) (h2 : x0.length = 64) : (tear xp x0 j).length = 64 := by
  simp [tear, h1, h2]; omega

/-- the document's disk, and what it tears -/
structure TR (w wq : World) (m mp : Nat) (q : Option Nat) (bs : List RB) (s : D) (u ko kv px kx : Nat) (lx old : List UInt8) : Prop where
  r : Rk wq m mp q bs s u
  c : Chg (RFoot m mp q) w wq
  o : wq.heap[ko]? = some (.cells (bv old).toArray 5 (0, 0))
  v : wq.heap[kv]? = some (.cells #[.int .i64 (px : Int), .slice (some ⟨kx, 0, none⟩) 64 64] 90 (0, 0))
  x : wq.heap[kx]? = some (.cells (bv lx).toArray 5 (0, 0))
  ne : ko ≠ kx
  nd : ∀ y ∈ bs, y.2.1 ≠ ko
  bo : w.heap.size ≤ ko
section
variable {w wq w' : World} {m mp : Nat} {q : Option Nat} {bs : List RB} {s : D} {u ko kv px kx : Nat} {lx x0 old : List UInt8} {j : Nat}
theorem TR.below (h : TR w wq m mp q bs s u ko kv px kx lx old) (hb : Below wq.heap.size wq w') : TR w w' m mp q bs s u ko kv px kx lx old := by
  have lt : ∀ {b : Nat} {o : Obj}, wq.heap[b]? = some o → w'.heap[b]? = some o := fun {b o} hb' => by rw [hb.block b (Array.getElem?_eq_some_iff.1 hb').1]; exact hb'
  exact ⟨h.r.below hb, h.c.trans (Chg.of_below (S := RFoot m mp q) hb) (fun _ _ h => h), lt h.o, lt h.v, lt h.x, h.ne, h.nd, h.bo⟩
theorem TR.cells (h : TR w wq m mp q bs s u ko kv px kx lx old) : wq.cell? ⟨kv, 0, none⟩ = some (.int .i64 (px : Int)) ∧ wq.cell? ⟨kv, 1, none⟩ = some (.slice (some ⟨kx, 0, none⟩) 64 64) := by
  refine ⟨?_, ?_⟩
  · rw [cell_of_row wq kv 0 _ 90 (0, 0) h.v]; rfl
  · rw [cell_of_row wq kv 1 _ 90 (0, 0) h.v]; rfl
theorem TR.step (h : TR w wq m mp q bs s u ko kv px kx lx (tear lx x0 j)) (hj : j < 64) (h1 : lx.length = 64) (h2 : x0.length = 64) : ∃ b : UInt8, wq.cell? ⟨kx, j, none⟩ = some (.int .u8 (b.toNat : Int)) ∧ (∃ v, wq.cell? ⟨ko, j, none⟩ = some v) ∧ wq.frozen? ⟨ko, j, none⟩ = false ∧
    TR w (wq.setCell ⟨ko, j, none⟩ (.int .u8 (b.toNat : Int))) m mp q bs s u ko kv px kx lx (tear lx x0 (j + 1)) := by
  have hl := tear_len2 lx x0 j (by omega) h1 h2
  have hkv : kv ≠ ko := tag_ne h.v h.o (by decide)
  have hnf := h.r.other h.o (by decide) (by decide)
  refine ⟨lx[j]'(by omega), ?_, ?_, by simp [World.frozen?, h.o], ?_⟩
  · rw [cell_of_row wq kx j _ 5 (0, 0) h.x]
    have := (bv_get lx j (.int .u8 ((lx[j]'(by omega)).toNat : Int))).2 ⟨by omega, rfl⟩
    simpa using this
  · rw [cell_of_row wq ko j _ 5 (0, 0) h.o]
    exact ⟨_, by rw [Array.getElem?_eq_getElem (by simp [bv_length, hl]; omega)]⟩
  · refine ⟨h.r.frame (fun b hb => Below.heap_setCell _ _ _ _ (fun e => hnf (by subst e; exact hb))) (fun y hy => Below.heap_setCell _ _ _ _ (h.nd y hy)), Chg.setCell h.c (p := ⟨ko, j, none⟩) (Or.inr h.bo) _, ?_, by rw [Below.heap_setCell _ _ _ _ hkv]; exact h.v, by rw [Below.heap_setCell _ _ _ _ h.ne.symm]; exact h.x, h.ne, h.nd, h.bo⟩
    rw [heap_setCell_at h.o j _]
    congr 2
    rw [← tear_step2 lx x0 j hj h1 h2, ← bv_set]
    simp
end
/-- the last steps of a crash -/
theorem rcrash_fin {w V : World} {m mp : Nat} {q : Option Nat} {bs : List RB} {s : D} {u : Nat} (h : Rk V m mp q bs s u) (hc : Chg (RFoot m mp q) w V) : (∃ v, V.cell? ⟨m, 2, none⟩ = some v) ∧ (∃ v, V.cell? ⟨m, 3, none⟩ = some v) ∧ (∃ v, V.cell? ⟨m, 4, none⟩ = some v) ∧ V.frozen? ⟨m, 2, none⟩ = false ∧ V.frozen? ⟨m, 3, none⟩ = false ∧ V.frozen? ⟨m, 4, none⟩ = false ∧
    RAfter w (((V.setCell ⟨m, 2, none⟩ (.slice none 0 0)).setCell ⟨m, 4, none⟩ (.bool false)).setCell ⟨m, 3, none⟩ (.int .i64 (-1))) m mp q ⟨s.last, [], -1⟩ u := by
  obtain ⟨A, c, n, Dm, hm, _⟩ := h.form
  obtain ⟨_, _, c2, c3, c4, f⟩ := five_cells hm
  exact ⟨⟨_, c2⟩, ⟨_, c3⟩, ⟨_, c4⟩, f 2, f 3, f 4, none, [], h.crashed, chg_m rfoot_m (chg_m rfoot_m (chg_m rfoot_m hc)), fun _ h => by cases h⟩
theorem RAfter.more {w w' : World} {m mp : Nat} {q : Option Nat} {s : D} {u u' : Nat} (h : RAfter w w' m mp q s u) (hu : u ≤ u') : RAfter w w' m mp q s u' := by
  obtain ⟨q', bs', ⟨ok, ⟨v, n, D', a1, a2, a3, a4⟩, b1, b2⟩, hc, hq⟩ := h
  exact ⟨q', bs', ⟨ok, ⟨v, n, D', a1, a2, by omega, a4⟩, b1, b2⟩, hc, hq⟩

set_option maxRecDepth 100000 in
set_option maxHeartbeats 2000000 in
theorem rcrash_any (w : World) (m mp : Nat) (q : Option Nat) (bs : List RB) (s : D) (u : Nat) (h : Rk w m mp q bs s u) (keep torn : Int) (hn : bs.length ≤ 1048576) (hu : u ≤ 4611686018427387904) : Calls Try.prog 18 #[.pointer (some ⟨m, 0, none⟩), .int .i64 keep, .int .i64 torn] w fun e w' => e = .returned (.tuple #[]) ∧ RAfter w w' m mp q (s.cSt keep torn) (u + bs.length + 1) := by
  have H := Lib.hid h
  have hbuf := Lib.hid h.buf
  have hlen : s.buf.length = bs.length := by rw [h.buf]; simp [rbuf]
  have HLEN := Lib.hid hlen
  have hsome := Lib.hid (@cSt_some s keep torn)
  have hnone := Lib.hid (@cSt_none s keep torn)
  have hkl : clampN keep s.buf.length ≤ bs.length := by unfold clampN; omega
  have hkd : ∀ j : Nat, j ≤ clampN keep s.buf.length → j < bs.length → ((j : Int) < keep → j + 1 ≤ clampN keep s.buf.length) ∧ (¬ (j : Int) < keep → clampN keep s.buf.length = j) := fun j h1 h2 => by
    unfold clampN at *
    omega
  have HKD := Lib.hid hkd
  clear h hlen hkd
  generalize clampN keep s.buf.length = kc at *
  go_enter Try.func18, Try.ntmps18
  go_wp2_with fail
  go_loopw [6] (fun i wr => ∃ j : Nat, j ≤ kc ∧ i = .int .i64 (j : Int) ∧ Rk wr m mp q bs ⟨settle s.last (s.buf.take j), s.buf, s.left⟩ (u + j) ∧ Chg (RFoot m mp q) w wr) (fun i _ => bs.length - (intOf i).toNat)
  case atStart => exact ⟨0, by omega, rfl, by rw [List.take_zero]; exact H.out, Chg.refl _ _⟩
  case round =>
    obtain ⟨j, hj, rfl, hR, hC⟩ := hrel
    have HR := Lib.hid hR
    have HC := Lib.hid hC
    clear hR hC
    by_cases hlt : j < bs.length
    · obtain ⟨Q, c5, d2, cp, cd, hh, hpl, hpx, _⟩ := HR.out.at hlt
      have hjb : j < s.buf.length := by rw [HLEN.out]; exact hlt
      have hbj : s.buf[j] = (bs[j].1, bs[j].2.2) := by simp [hbuf.out, rbuf]
      have hst := settle_take s.last s.buf j hjb
      have hkj := HKD.out j hj hlt
      have hdx := HR.out.data _ (List.getElem_mem hlt)
      have hcs : kc = j → s.cSt keep torn = ⟨(settle s.last (s.buf.take j)).set bs[j].1 (tear bs[j].2.2 ((settle s.last (s.buf.take j))[bs[j].1]?.getD []) (clampN torn 64)), [], -1⟩ := by
        intro e
        have := hsome.out (by omega)
        subst e
        rw [this]
        simp only [hbj]
      rw [hbj] at hst
      simp only at hst hpl
      generalize bs[j] = x at *
      obtain ⟨px, kx, lx⟩ := x
      simp only at cp cd hh hpl hpx hst hdx hcs
      have hpl' : px < s.last.length := by rw [settle_length] at hpl; exact hpl
      have hmost := H.out.ok.most
      have HH := Lib.hid hh
      have HST := Lib.hid hst
      have HCS := Lib.hid hcs
      have HDX := Lib.hid hdx
      have HKJ := Lib.hid hkj
      have hj0 : (0 : Int) ≤ (j : Int) := Int.natCast_nonneg _
      have hj1 : (j : Int) < (bs.length : Int) := by omega
      clear hh hst hbj hcs hdx hkj
      by_cases hk : (j : Int) < keep
      · go_wp2_with fail
        obtain ⟨X, hX⟩ : ∃ X, X = (wr.alloc (.cells #[.int .i64 (px : Int), .slice (some ⟨kx, 0, none⟩) 64 64] 90)).drew := ⟨_, rfl⟩
        have hbX : Below wr.heap.size wr X := by rw [hX]; exact ((Below.refl _ _).alloc (Nat.le_refl _) _).drew
        have hvX : X.heap[wr.heap.size]? = some (.cells #[.int .i64 (px : Int), .slice (some ⟨kx, 0, none⟩) 64 64] 90 (0, 0)) := by rw [hX]; exact heap_alloc_new wr _
        have hRX := HR.out.below hbX
        obtain ⟨A6, c6, n6, Dm6, hm6, _⟩ := hRX.form
        obtain ⟨_, e1, _, _, _, _⟩ := five_cells hm6
        have e3 : X.cell? ⟨wr.heap.size, 0, none⟩ = some (.int .i64 (px : Int)) := by rw [cell_of_row X _ 0 _ 90 (0, 0) hvX]; rfl
        have e4 : X.cell? ⟨wr.heap.size, 1, none⟩ = some (.slice (some ⟨kx, 0, none⟩) 64 64) := by rw [cell_of_row X _ 1 _ 90 (0, 0) hvX]; rfl
        have cv := conv_hold (w := X) (l := lx) (HH.out.below hbX)
        obtain ⟨n7, Dm7, hM7, hn7, hup⟩ := hRX.upd (p := px) hpx
        have HM7 := Lib.hid hM7
        have HUP := Lib.hid hup
        have HCX := Lib.hid (HC.out.trans (Chg.of_below (S := RFoot m mp q) hbX) (fun _ _ h => h))
        refine wp_region_tail 9 X hX (by kernel_rfl) (by kernel_rfl) ?_
        clear hX hRX hM7 hup HR HC d2 cp cd HH hbX hvX hm6 HCS HDX
        simp only [List.take_succ_cons, List.take_zero, List.drop_succ_cons, List.drop_zero]
        iterate 9 still_step
        refine wpStill_nil ?_
        refine wpList_mapUpdate_own X rfl (.tmp 32) (.tmp 34) (.tmp 37) 50 rfl 3 9 law3 Try.underlying50 RE mp n7 Dm7 rfl HM7.out (by unfold maxLen; omega) _ _ _ rfl rfl (key3 px (by omega)) _ [] (text_reads lx (by omega)) ?_
        intro w5 hown5 hgrow5
        obtain ⟨hR5, hC5⟩ := HUP.out w5 hown5 hgrow5
        have HR5 : Hid (Rk w5 m mp q bs ⟨settle s.last (s.buf.take (j + 1)), s.buf, s.left⟩ (u + (j + 1))) := by
          rw [HST.out]
          exact hR5
        have HC5 := Lib.hid (HCX.out.trans hC5 (fun _ _ h => h))
        have hj2 : j + 1 ≤ kc := HKJ.out.1 hk
        clear hR5 hC5 hown5 hgrow5 HUP HM7 HCX cv e1 e3 e4 HKJ
        go_wp2_with fail
        go_roundw
        case rel => exact ⟨j + 1, by omega, by go_num, HR5.out, HC5.out⟩
        case measure => simp [intOf]; omega
      · have hkj : kc = j := HKJ.out.2 (by omega)
        have hcs := HCS.out hkj
        have hx0 : ((settle s.last (s.buf.take j))[px]?.getD []) = (settle s.last (s.buf.take j))[px] := by rw [List.getElem?_eq_getElem hpl]; rfl
        have hx64 := HR.out.ok.sec _ (List.getElem_mem hpl)
        rw [hx0] at hcs
        have HCSF := Lib.hid hcs
        have HX64 := Lib.hid hx64
        have HRA := Lib.hid (HR.out.alloc (.cells #[.int .i64 (px : Int), .slice (some ⟨kx, 0, none⟩) 64 64] 90))
        have HLA := Lib.hid (lasting_any _ m mp q bs _ _ HRA.out px hpl)
        have HDL : Hid (∀ y ∈ bs, y.2.1 < wr.heap.size) := fun y hy => (Array.getElem?_eq_some_iff.1 (HR.out.data y hy)).1
        have hkxl : kx < wr.heap.size := (Array.getElem?_eq_some_iff.1 HDX.out).1
        have hwsz : w.heap.size ≤ wr.heap.size := HC.out.size
        clear hcs hx0 hx64 HCS HKJ hkj HST
        simp only at HCSF HX64 HLA
        generalize (settle s.last (s.buf.take j))[px] = x0 at *
        go_wp2_with fail
        refine HLA.out.mono ?_
        rintro e w2 ⟨ko, rfl, hko, hco, hbo⟩
        have hsz1 : wr.heap.size + 1 ≤ ko := by simpa using hko
        have hbw : Below wr.heap.size wr w2 := ((Below.refl _ _).alloc (Nat.le_refl _) _).trans (hbo.mono (by simp))
        have hTR : TR w w2 m mp q bs ⟨settle s.last (s.buf.take j), s.buf, s.left⟩ (u + j) ko wr.heap.size px kx lx (tear lx x0 0) :=
          ⟨HR.out.below hbw, HC.out.trans (Chg.of_below (S := RFoot m mp q) hbw) (fun _ _ h => h), hco, by rw [hbo.block wr.heap.size (by simp)]; exact heap_alloc_new wr _, by rw [hbw.block kx hkxl]; exact HDX.out, by omega, fun y hy => by have := HDL.out y hy; omega, by omega⟩
        have HTR := Lib.hid hTR
        obtain ⟨kv, hkv⟩ : ∃ kv, kv = wr.heap.size := ⟨_, rfl⟩
        rw [← hkv] at HTR
        clear hTR hbw hco hbo hko hsz1 HRA HLA HDL HR HC d2 cp cd HH HDX hkxl hwsz
        go_wp2_with fail
        rw [← hkv]
        clear hkv
        go_loopw [9] (fun i wq => ∃ jj : Nat, jj ≤ clampN torn 64 ∧ i = .int .i64 (jj : Int) ∧ TR w wq m mp q bs ⟨settle s.last (s.buf.take j), s.buf, s.left⟩ (u + j) ko kv px kx lx (tear lx x0 jj)) (fun i _ => 64 - (intOf i).toNat)
        case atStart => exact ⟨0, by omega, rfl, HTR.out⟩
        case round =>
          obtain ⟨jj, hjj, rfl, hT⟩ := hrel
          have HT := Lib.hid hT
          clear hT HTR
          have hjj0 : (0 : Int) ≤ (jj : Int) := Int.natCast_nonneg _
          by_cases hc : jj < clampN torn 64
          · have hj64 : (jj : Int) < 64 := by unfold clampN at hc; omega
            have hjt : (jj : Int) < torn := by unfold clampN at hc; omega
            obtain ⟨b8, cx, ⟨v, co⟩, fo, hTB⟩ := HT.out.step (by omega) hpx HX64.out
            obtain ⟨v0, v1⟩ := HT.out.cells
            have HTB := Lib.hid hTB
            clear hTB
            go_wp2_with fail
            go_roundw
            case rel => exact ⟨jj + 1, by omega, by go_num, HTB.out⟩
            case measure => simp [intOf]; omega
          · have hje : jj = clampN torn 64 := by omega
            have hj64 : jj ≤ 64 := by unfold clampN at hje; omega
            have htl := tear_len2 lx x0 jj hj64 hpx HX64.out
            have hcs := HCSF.out
            rw [← hje] at hcs
            have HCSG := Lib.hid hcs
            clear hcs HCSF
            have hex : ¬ ((jj : Int) < 64 ∧ (jj : Int) < torn) := by unfold clampN at hc; omega
            clear hje hc hjj
            generalize tear lx x0 jj = y at *
            obtain ⟨X, hX⟩ : ∃ X, X = wr.drew := ⟨_, rfl⟩
            have hTX : TR w X m mp q bs ⟨settle s.last (s.buf.take j), s.buf, s.left⟩ (u + j) ko kv px kx lx y := by rw [hX]; exact HT.out.below ((Below.refl _ _).drew)
            obtain ⟨v0, v1⟩ := hTX.cells
            obtain ⟨A6, c6, n6, Dm6, hm6, _⟩ := hTX.r.form
            obtain ⟨_, e1, _, _, _, _⟩ := five_cells hm6
            have cv := conv_hold (Hold.block hTX.o 64 htl.symm)
            obtain ⟨n7, Dm7, hM7, hn7, hup⟩ := hTX.r.upd (p := px) htl
            have HM7 := Lib.hid hM7
            have HUP := Lib.hid hup
            have HCX := Lib.hid hTX.c
            have HXX := Lib.hid hX
            clear hX hTX hM7 hup hm6 HT
            by_cases hjx : (jj : Int) < 64
            · have hjt : ¬ (jj : Int) < torn := fun h => hex ⟨hjx, h⟩
              clear hex
              go_wp2_with fail
              refine wp_region_tail 8 X HXX.out (by kernel_rfl) (by kernel_rfl) ?_
              simp only [List.take_succ_cons, List.take_zero, List.drop_succ_cons, List.drop_zero]
              iterate 8 still_step
              refine wpStill_nil ?_
              refine wpList_mapUpdate_own X rfl (.tmp 62) (.tmp 64) (.tmp 66) 50 rfl 3 9 law3 Try.underlying50 RE mp n7 Dm7 rfl HM7.out (by unfold maxLen; omega) _ _ _ rfl rfl (key3 px (by omega)) _ [] (text_reads y (by omega)) ?_
              intro w5 hown5 hgrow5
              obtain ⟨hR5, hC5⟩ := HUP.out w5 hown5 hgrow5
              have hC6 := HCX.out.trans hC5 (fun _ _ h => h)
              obtain ⟨⟨v2, x2⟩, ⟨v3, x3⟩, ⟨v4, x4⟩, y2, y3, y4, hfin⟩ := rcrash_fin hR5 hC6
              simp only at hfin
              rw [← HCSG.out] at hfin
              have HF := Lib.hid (hfin.more (show u + j + 1 ≤ u + bs.length + 1 by omega))
              clear hfin hR5 hC5 hC6 hown5 hgrow5 HUP HM7 HCX cv e1 v0 v1
              go_wp2_with fail
              go_end0
              exact ⟨rfl, HF.out⟩
            · clear hex
              go_wp2_with fail
              refine wp_region_tail 8 X HXX.out (by kernel_rfl) (by kernel_rfl) ?_
              simp only [List.take_succ_cons, List.take_zero, List.drop_succ_cons, List.drop_zero]
              iterate 8 still_step
              refine wpStill_nil ?_
              refine wpList_mapUpdate_own X rfl (.tmp 62) (.tmp 64) (.tmp 66) 50 rfl 3 9 law3 Try.underlying50 RE mp n7 Dm7 rfl HM7.out (by unfold maxLen; omega) _ _ _ rfl rfl (key3 px (by omega)) _ [] (text_reads y (by omega)) ?_
              intro w5 hown5 hgrow5
              obtain ⟨hR5, hC5⟩ := HUP.out w5 hown5 hgrow5
              have hC6 := HCX.out.trans hC5 (fun _ _ h => h)
              obtain ⟨⟨v2, x2⟩, ⟨v3, x3⟩, ⟨v4, x4⟩, y2, y3, y4, hfin⟩ := rcrash_fin hR5 hC6
              simp only at hfin
              rw [← HCSG.out] at hfin
              have HF := Lib.hid (hfin.more (show u + j + 1 ≤ u + bs.length + 1 by omega))
              clear hfin hR5 hC5 hC6 hown5 hgrow5 HUP HM7 HCX cv e1 v0 v1
              go_wp2_with fail
              go_end0
              exact ⟨rfl, HF.out⟩
    · have hjl : j = bs.length := by omega
      have hkc : kc = bs.length := by omega
      have hcs : s.cSt keep torn = ⟨settle s.last (s.buf.take j), [], -1⟩ := by
        rw [hnone.out (by have := HLEN.out; omega), hkc, hjl]
      obtain ⟨⟨v2, x2⟩, ⟨v3, x3⟩, ⟨v4, x4⟩, y2, y3, y4, hfin⟩ := rcrash_fin HR.out HC.out
      obtain ⟨A6, c6, n6, Dm6, hm6, _⟩ := HR.out.form
      obtain ⟨_, _, e2, _, _, _⟩ := five_cells hm6
      simp only at hfin
      rw [← hcs] at hfin
      have HF := Lib.hid (hfin.more (show u + j ≤ u + bs.length + 1 by omega))
      clear hfin hcs hm6 HR HC hsome hnone x2 HKD
      subst hjl
      go_wp2_with fail
      go_end0
      exact ⟨rfl, HF.out⟩
end Go.Proofs.Ytkghjgpeobacjaa
