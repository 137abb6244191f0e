/-
  What is proved: what Crash leaves, told by the disk as lists.
-/
import Derived.Test.YtbfhlleipeipbaaSettle
namespace Go.Proofs.Ytbfhlleipeipbaa
open Go.RowKit

/-- 'copy' of single cells, nil or not: the world behind it written by its cells -/
theorem wpList_copy_cells {P : Program} {w : World} {ops : Array Oper} {rest : List Oper} {o : Oper} {a : Act} {Q : Exit → Act → World → Prop} (hgd : o.guard = none) (d s : Operand) (dT sT : TypeId)
    (ho : o.op = .call { callee := .builtin .copy, args := #[d, s], argTypes := #[dT, sT] }) (elem : TypeId) (hu : P.underlying dT = some (.slice elem)) (hsz : (P.info? elem).map (·.size) = some 1)
    (dp sp : Option Addr) (dLen dCap sLen sCap : Nat) (hd : a.eval d = .slice dp dLen dCap) (hs : a.eval s = .slice sp sLen sCap)
    (b of : Nat) (cs : List Value) (hn : cs.length = Nat.min sLen dLen)
    (hpos : 0 < cs.length → dp = some ⟨b, of, none⟩ ∧ ∃ ad, sp = some ad ∧ ∀ j v, cs[j]? = some v → w.cell? (ad.add j) = some v)
    (ht : w.there b of cs.length) (h1 : ∀ v ∈ cs, v.oneCell' = true) (h : wpList P ops Q rest (a.put o.dst (goInt cs.length)) (w.setCells b of cs)) : wpList P ops Q (o :: rest) a w := by
  by_cases h0 : cs.length = 0
  · obtain rfl : cs = [] := List.eq_nil_of_length_eq_zero h0
    exact wpList_copy_nothing hgd d s dT sT ho elem hu hsz dp sp dLen dCap sLen sCap hd hs (by simpa using hn.symm) h
  · obtain ⟨rfl, ad, rfl, hsrc⟩ := hpos (by omega)
    refine wpList_plain hgd fun K hK => ?_
    have hrun := run_copy_cells (P := P) w dT sT o.type elem b of dLen dCap ad sLen sCap cs hu hsz hn hsrc (fun j hj => (ht j hj).1) (fun j hj => (ht j hj).2) h1
    unfold Oper.wp
    simp [execOp, ho, resolve, invoke, builtin, hd, hs, hrun, Result.andThen]
    exact hK _ _ h

theorem splice_part {α : Type} (X : List α) (o : Nat) (a b : List α) (hb : b = (X.drop (o + a.length)).take b.length) : splice X o (a ++ b) = splice X o a := by
  unfold splice
  have h := List.take_append_drop b.length (X.drop (o + a.length))
  rw [← hb, List.drop_drop] at h
  rw [List.append_assoc, List.length_append, ← Nat.add_assoc, h]
theorem sec_part {ls : List (List UInt8)} (h : ∀ l ∈ ls, l.length = 64) {p : Nat} (hp : p < ls.length) (t : Nat) : bv (ls[p].drop t) = ((secV ls).drop (p * 64 + t)).take (bv (ls[p].drop t)).length := by
  have hlp := h _ (List.getElem_mem hp)
  apply List.ext_getElem?
  intro i
  rw [List.getElem?_take, List.getElem?_drop]
  by_cases hi : i < (bv (ls[p].drop t)).length
  · rw [if_pos hi]
    have hi' : t + i < 64 := by rw [bv_length, List.length_drop, hlp] at hi; omega
    unfold secV
    rw [Nat.add_assoc, flat_get 64 _ (sec_each h) p (t + i) (by simpa using hp) hi']
    simp [bv]
  · rw [if_neg hi, List.getElem?_eq_none (by omega)]
theorem secV_tear {ls : List (List UInt8)} (h : ∀ l ∈ ls, l.length = 64) {p : Nat} (hp : p < ls.length) (x : List UInt8) (hx : x.length = 64) (t : Nat) (ht : t ≤ 64) : secV (ls.set p (tear x (ls[p]?.getD []) t)) = splice (secV ls) (p * 64) (bv (x.take t)) := by
  have hlp := h _ (List.getElem_mem hp)
  rw [List.getElem?_eq_getElem hp, Option.getD_some, secV_set h hp _ (by simp [tear, hx, hlp]; omega)]
  unfold tear
  rw [bv_append]
  refine splice_part _ _ _ _ ?_
  have e : (bv (x.take t)).length = t := by rw [bv_length, List.length_take]; omega
  rw [e]
  exact sec_part h hp t
section
variable {w : World} {g L : Nat} {q : Option Nat} {s : D}
/-- a sector is torn -/
theorem Dk.tearSec (h : Dk w g L q s) {p : Nat} (hp : p < s.last.length) {x : List UInt8} (hx : x.length = 64) {t : Nat} (ht : t ≤ 64) : Dk (w.setCells L (p * 64) (bv (x.take t))) g L q ⟨s.last.set p (tear x (s.last[p]?.getD []) t), s.buf, s.left⟩ := by
  obtain ⟨a1, a2, a3⟩ := h.apart
  obtain ⟨ok, cap, v, hg, hL, hB, rfl⟩ := h
  have hlen : (s.last.set p (tear x (s.last[p]?.getD []) t)).length = s.last.length := by simp
  have htl : (tear x (s.last[p]?.getD []) t).length = 64 := by
    have := getD_len ok.sec hp
    simp only [tear, List.length_append, List.length_take, List.length_drop, hx, this]
    omega
  refine ⟨⟨mem_set_len ok.sec _ _ htl, by rw [hlen]; exact ok.wr, by rw [hlen]; exact ok.pos, by rw [hlen]; exact ok.most, ok.lo, ok.hi⟩, cap, v, ?_, ?_, own_keep hB (fun b hb => heap_setCells_other _ _ (fun e => a3 (by rw [hb, e])) _ _ _), rfl⟩
  · rw [heap_setCells_other L g a1, hlen]
    exact hg
  · show World.ownsRow _ 0 88 64 (.slice (some ⟨L, 0, none⟩) (s.last.set p (tear x (s.last[p]?.getD []) t)).length cap) (s.last.set p (tear x (s.last[p]?.getD []) t)).length (secV (s.last.set p (tear x (s.last[p]?.getD []) t)))
    rw [hlen, secV_tear ok.sec hp x hx t ht]
    refine own_setCells hL _ _ ?_
    rw [bv_length, List.length_take]
    have : (p + 1) * 64 ≤ s.last.length * 64 := Nat.mul_le_mul_right _ hp
    omega
/-- behind the last steps of a crash -/
theorem Dk.crashed (h : Dk w g L q s) : Dk ((w.setCell ⟨g, 1, none⟩ (.slice none 0 0)).setCell ⟨g, 2, none⟩ (.int .i64 (-1))) g L none ⟨s.last, [], -1⟩ :=
  h.nobuf.left_ (-1) (by omega) (by omega)
end
theorem clamp_keep (k : Int) (n : Nat) : min (max k 0) (n : Int) = ((clampN k n : Nat) : Int) := by unfold clampN; omega
theorem cSt_none {s : D} {k t : Int} (h : ¬ clampN k s.buf.length < s.buf.length) : s.cSt k t = ⟨settle s.last (s.buf.take (clampN k s.buf.length)), [], -1⟩ := by
  unfold D.cSt D.cLast
  rw [List.getElem?_eq_none (by omega)]
theorem cSt_some {s : D} {k t : Int} (h : clampN k s.buf.length < s.buf.length) : s.cSt k t = ⟨(settle s.last (s.buf.take (clampN k s.buf.length))).set s.buf[clampN k s.buf.length].1 (tear s.buf[clampN k s.buf.length].2 ((settle s.last (s.buf.take (clampN k s.buf.length)))[s.buf[clampN k s.buf.length].1]?.getD []) (clampN t 64)), [], -1⟩ := by
  unfold D.cSt D.cLast
  rw [List.getElem?_eq_getElem h]

theorem crash_fin {w V : World} {g L : Nat} {q : Option Nat} {s : D} (h : Dk V g L q s) (hc : Chg (Foot g L q) w V) : (∃ u, V.cell? ⟨g, 1, none⟩ = some u) ∧ V.cell? ⟨g, 2, none⟩ = some (.int .i64 s.left) ∧ V.frozen? ⟨g, 1, none⟩ = false ∧ V.frozen? ⟨g, 2, none⟩ = false ∧
    After w ((V.setCell ⟨g, 1, none⟩ (.slice none 0 0)).setCell ⟨g, 2, none⟩ (.int .i64 (-1))) g L q ⟨s.last, [], -1⟩ := by
  obtain ⟨cap, A, c, hg, _⟩ := h.form
  obtain ⟨_, c1, c2, f⟩ := box_cells hg
  exact ⟨⟨_, c1⟩, c2, f 1, f 2, none, h.crashed, (hc.setCell (.inl foot_g) _).setCell (.inl foot_g) _, fun _ h => by cases h⟩
/-- the variable of the write that may be torn is filled: what is known -/
theorem tear_facts {w W : World} {g L : Nat} {q : Option Nat} {s : D} {S : Nat → Prop} {w0 : World} {Z : Array Value} {p : Nat × List UInt8} {t : Nat} (h : Dk w g L q s) (hc : Chg S w0 w) (hW : W = w.alloc (.cells Z 90)) (hp : p.1 < s.last.length) (hx : p.2.length = 64) (ht : t ≤ 64) :
    ∃ V, V = (W.setRow w.heap.size (wV p).toArray).drew ∧ V.heap[w.heap.size]? = some (.cells (wV p).toArray 90 (0, 0)) ∧ Dk V g L q s ∧ Dk (V.setCells L (p.1 * 64) (bv (p.2.take t))) g L q ⟨s.last.set p.1 (tear p.2 (s.last[p.1]?.getD []) t), s.buf, s.left⟩ ∧ (S L → Chg S w0 (V.setCells L (p.1 * 64) (bv (p.2.take t)))) ∧
      (∃ cap, V.cell? ⟨g, 0, none⟩ = some (.slice (some ⟨L, 0, none⟩) s.last.length cap)) := by
  obtain ⟨V, h1, h2, h3, h4, h5, h6, h7⟩ := round_facts h hc hW hp hx
  exact ⟨V, h1, h2, h3, h3.tearSec hp hx ht, fun hS => h4.setCells (.inl hS) _ _, h7⟩

set_option maxRecDepth 100000 in
set_option maxHeartbeats 1000000 in
theorem crash_any (w : World) (g L : Nat) (q : Option Nat) (s : D) (h : Dk w g L q s) (keep torn : Int) (hn : s.buf.length ≤ 4611686018427387904) :
    Calls Try.prog 18 #[.pointer (some ⟨g, 0, none⟩), .int .i64 keep, .int .i64 torn] w fun e w' => e = .returned (.tuple #[]) ∧ After w w' g L q (s.cSt keep torn) := by
  obtain ⟨cap, A, c, hg, _, hB, hq⟩ := h.form
  obtain ⟨_, c1, _, _⟩ := box_cells hg
  have hkc : (clampN keep s.buf.length : Int) ≤ (c : Int) := by
    rcases hB.2 with ⟨hv, h0⟩ | ⟨g', c', cur, hv, _, _, hnc, _⟩
    · rw [h0]; unfold clampN; omega
    · injection hv with _ _ h3
      subst h3
      unfold clampN
      omega
  have hk0 : (0 : Int) ≤ (clampN keep s.buf.length : Int) := Int.natCast_nonneg _
  have hkn : (clampN keep s.buf.length : Int) ≤ (s.buf.length : Int) := by unfold clampN; omega
  have hQ0 : 0 < s.buf.length → ∃ Q, A = some ⟨Q, 0, none⟩ ∧ q = some Q := fun h0 => by
    obtain ⟨Q, e⟩ := own_some hB h0
    rw [e] at hq
    exact ⟨Q, e, hq.symm⟩
  have hQ := Lib.hid hQ0
  have HS := Lib.hid (settle_any w g L q s h A (clampN keep s.buf.length) c (by omega) (fun h0 => hQ0 (by omega)) hn)
  have hck := Lib.hid (clamp_keep keep s.buf.length)
  have hct := Lib.hid (clamp_keep torn 64)
  have hsome := Lib.hid (@cSt_some s keep torn)
  have hnone := Lib.hid (@cSt_none s keep torn)
  have hwr := Lib.hid h.ok.wr
  clear h hg hB hq hQ0
  generalize clampN keep s.buf.length = k at *
  go_enter Try.func18, Try.ntmps18
  go_wp2_with fail
  refine (clamp_any keep 0 s.buf.length w).mono ?_
  rintro e w1 ⟨rfl, rfl⟩
  rw [hck.out]
  go_wp2_with fail
  refine (clamp_any torn 0 64 w1).mono ?_
  rintro e w2 ⟨rfl, rfl⟩
  have hct' : min (max torn 0) 64 = (clampN torn 64 : Int) := hct.out
  rw [hct']
  clear hct'
  have ht64 : (clampN torn 64 : Int) ≤ 64 := by unfold clampN; omega
  have ht0 : (0 : Int) ≤ (clampN torn 64 : Int) := Int.natCast_nonneg _
  generalize clampN torn 64 = t at *
  go_wp2_with fail
  refine HS.out.mono ?_
  rintro e w3 ⟨rfl, hd3, hc3⟩
  clear c1 HS
  have HD3 := Lib.hid hd3
  have HC3 := Lib.hid hc3
  obtain ⟨cap3, A3, c3, hg3, hL3, hB3, hq3⟩ := hd3.form
  obtain ⟨c03, c13, c23, f3⟩ := box_cells hg3
  have HB3 := Lib.hid hB3
  clear hd3 hc3 hg3 hL3 hB3 f3 hQ
  simp only at c03 c13 c23 hq3 HB3
  by_cases hlt : k < s.buf.length
  · have hlt' : (k : Int) < (s.buf.length : Int) := by omega
    obtain ⟨Q, rfl⟩ := own_some HB3.out (by omega)
    have hqQ : q = some Q := hq3.symm
    have hst := hsome.out hlt
    have hrg := HD3.out.range (k := k) hlt hqQ
    have hp := hwr.out _ (List.getElem_mem hlt)
    have hpl : s.buf[k].1 < (settle s.last (s.buf.take k)).length := by rw [settle_length]; exact hp.1
    simp only at hrg
    generalize s.buf[k] = p at *
    have HST := Lib.hid hst
    have HRG := Lib.hid hrg
    have HP := Lib.hid hp
    have HPL := Lib.hid hpl
    have HI := Lib.hid (size66_of p hp.2)
    have hi' : (Try.prog.info? 90).map (·.size) = some (wV p).toArray.size := by simpa using size66_of p hp.2
    have HI' := Lib.hid hi'
    obtain ⟨Z, hZ, hZs'⟩ := Try.zero66
    have hZs : Z.size = 65 := by rw [hZs']; rfl
    have hzx : Z.size = (wV p).toArray.size := by rw [hZs]; simp [wV_length p hp.2]
    have HZX := Lib.hid hzx
    have H1 := Lib.hid (all_oneCell_toArray (wV_one p))
    have hp0 : (0 : Int) ≤ (p.1 : Int) := Int.natCast_nonneg _
    have hp1 : (p.1 : Int) < ((settle s.last (s.buf.take k)).length : Int) := by omega
    have ht' : t ≤ 64 := by omega
    clear hi' hzx hp hpl hrg hst hZs hZs' hsome hnone hqQ hq3
    go_wp2_with (first
      | (with_reducible refine wpList_load_mid rfl 90 (.tmp 36) rfl Q (k * 65) rfl (wV p) _ HRG.out Try.underlying90 rfl HI.out ?_)
      | (with_reducible refine wpList_alloc_new rfl 90 rfl Z hZ ?_; intro W hW; obtain ⟨V, hV, hf, hD1, hD2, hC2, cap4, c04⟩ := tear_facts (t := t) HD3.out HC3.out hW.out HPL.out HP.out.2 ht'; obtain ⟨g1, g2⟩ := new_filled hW.out; have G1 := Lib.hid g1; have HV := Lib.hid hV; have HF := Lib.hid hf; have HD1 := Lib.hid hD1; have HD2 := Lib.hid hD2; have HC2 := Lib.hid (hC2 foot_L); clear g1 g2 hW hV hf hD1 hD2 hC2)
      | (with_reducible refine wpList_store_row rfl 90 (.tmp 6) (.tmp 37) rfl w3.heap.size (wV p).toArray rfl rfl 90 Z G1.out HI'.out HZX.out H1.out ?_))
    refine wp_region_tail 11 V HV.out (by kernel_rfl) (by kernel_rfl) ?_
    have hrb := range_block HF.out
    have hpc := buf_place hrb
    have HRB := Lib.hid (buf_bytes hrb)
    have HTH := Lib.hid (HD1.out.there_ HPL.out)
    clear hrb HF HD1
    simp only [List.take_succ_cons, List.take_zero, List.drop_succ_cons, List.drop_zero]
    iterate 11 still_step
    refine wpStill_nil ?_
    have hcl : (bv (p.2.take t)).length = t := by rw [bv_length, List.length_take, HP.out.2]; omega
    have hcn : (bv (p.2.take t)).length = Nat.min 64 t := by rw [hcl]; exact (Nat.min_eq_right ht').symm
    have hct' : V.there L (p.1 * 64) (bv (p.2.take t)).length := fun j hj => HTH.out j (by omega)
    have hcs : ∀ j v, (bv (p.2.take t))[j]? = some v → V.cell? ((⟨w3.heap.size, 1, none⟩ : Addr).add j) = some v := fun j v hv => by
      rw [Addr.add_lit]
      refine HRB.out j v ?_
      have hj : j < t := by rw [← hcl]; exact (List.getElem?_eq_some_iff.1 hv).1
      simpa [bv, List.getElem?_take, hj] using hv
    refine wpList_copy_cells rfl (.tmp 46) (.tmp 48) 43 43 rfl 5 Try.underlying43 (by kernel_rfl) _ _ _ _ _ _ rfl rfl L (p.1 * 64) (bv (p.2.take t)) hcn (fun _ => ⟨rfl, _, rfl, hcs⟩) hct' (bv_one _) ?_
    clear hcs hct' hcn hcl HTH HRB HV
    generalize V.setCells L (p.1 * 64) (bv (p.2.take t)) = X at *
    obtain ⟨⟨u, x1⟩, x2, x3, x4, hfin⟩ := crash_fin HD2.out HC2.out
    rw [← HST.out] at hfin
    have HF := Lib.hid hfin
    clear hfin HST
    go_wp2_with fail
    go_end0
    exact ⟨rfl, HF.out⟩
  · have hlt' : ¬ (k : Int) < (s.buf.length : Int) := by omega
    obtain ⟨⟨u, x1⟩, x2, x3, x4, hfin⟩ := crash_fin HD3.out HC3.out
    simp only at hfin
    rw [← hnone.out hlt] at hfin
    have HF := Lib.hid hfin
    clear hfin hsome hnone
    go_wp2_with fail
    go_end0
    exact ⟨rfl, HF.out⟩
end Go.Proofs.Ytbfhlleipeipbaa
