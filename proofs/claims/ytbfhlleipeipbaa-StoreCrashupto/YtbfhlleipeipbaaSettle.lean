/-
  What is proved: what settle and Flush leave, told by the disk as lists.
-/
import Derived.Test.YtbfhlleipeipbaaTold
namespace Go.Proofs.Ytbfhlleipeipbaa
open Go.RowKit

theorem wpStill_load_mid {P : Program} {ops : Array Oper} {w : World} {Q : Act → Prop} {rest : List Oper} {o : Oper} {a : Act} (hgd : o.guard = none) (ty : TypeId) (x : Operand) (ho : o.op = .load ty x)
    (b of : Nat) (hx : a.eval x = .pointer (some ⟨b, of, none⟩)) (cs : List Value) (d : TypeDesc) (hc : w.rangeAt b of cs)
    (hu : P.underlying ty = some d) (hd : d.isRow = true) (hi : (P.info? ty).map (·.size) = some cs.length)
    (h : wpStill P ops w Q rest (a.put o.dst (.agg cs.toArray))) : wpStill P ops w Q (o :: rest) a := by
  refine wpStill_step fun K hK => ?_
  have hw : Region.wanted o (yielded ops a.tmps) = true := by simp [Region.wanted, hgd]
  rw [if_pos hw]
  unfold Oper.still execOp
  simp only [ho, hx, Instr.loadAt, Instr.sureAddr, Sem.run_bind, Sem.run_pure, Result.andThen_ok, run_loadVar_mid w b of ty cs d hc hu hd hi]
  rw [Oper.stillUpon_value]
  exact hK _ h

/-- as the kit's law on reads ahead of a tail, the world behind the draw a letter -/
theorem wp_region_tail {P : Program} {id : Nat} {Q : Exit → Act → World → Prop} {a : Act} {w : World} {l : List Oper} (n : Nat) (V : World) (hV : V = w.drew) (hm : P.follows .mixedOrders = true) (hB : Region.lexTailB .any l.toArray n = true)
    (h : wpStill P l.toArray V (fun a' => wpList P l.toArray Q (l.drop n) a' V) (l.take n) a) : (Code.region id l.toArray true).wp P Q a w := by
  subst hV
  exact wp_region_still_tail n hm hB h
section
variable {w : World} {g L : Nat} {q : Option Nat} {s : D}
theorem tag_ne {w : World} {b b' : Nat} {C C' : Array Value} {t t' : TypeId} {fr fr' : Nat × Nat} (h : w.heap[b]? = some (.cells C t fr)) (h' : w.heap[b']? = some (.cells C' t' fr')) (hne : t ≠ t') : b ≠ b' := by
  intro e
  subst e
  rw [h] at h'
  injection h' with h'
  injection h' with _ h'
  exact hne h'
theorem own_tag {w : World} {v : Value} {n z b : Nat} {xs : List Value} {e : TypeId} (h : w.ownsRow 0 e z v n xs) (hb : v.ownBlock = some b) : ∃ C, w.heap[b]? = some (.cells C e (0, 0)) := by
  rcases h.2 with ⟨rfl, _⟩ | ⟨g, cap, cur, rfl, _, hg, _⟩
  · cases hb
  · injection hb with hb
    subst hb
    exact ⟨cur, hg⟩
theorem Dk.apart (h : Dk w g L q s) : g ≠ L ∧ q ≠ some g ∧ q ≠ some L := by
  obtain ⟨ok, cap, v, hg, hL, hB, rfl⟩ := h
  obtain ⟨C, hC⟩ := own_tag hL (b := L) rfl
  refine ⟨tag_ne hg hC (by decide), fun e => ?_, fun e => ?_⟩
  · obtain ⟨C', hC'⟩ := own_tag hB e
    exact tag_ne hg hC' (by decide) rfl
  · obtain ⟨C', hC'⟩ := own_tag hB e
    exact tag_ne hC hC' (by decide) rfl
/-- a sector is written -/
theorem Dk.setSec (h : Dk w g L q s) {p : Nat} (hp : p < s.last.length) {x : List UInt8} (hx : x.length = 64) : Dk (w.setCells L (p * 64) (bv x)) g L q ⟨s.last.set p x, s.buf, s.left⟩ := by
  obtain ⟨a1, a2, a3⟩ := h.apart
  obtain ⟨ok, cap, v, hg, hL, hB, rfl⟩ := h
  have hlen : (s.last.set p x).length = s.last.length := by simp
  refine ⟨⟨mem_set_len ok.sec _ _ hx, by rw [hlen]; exact ok.wr, by rw [hlen]; exact ok.pos, by rw [hlen]; exact ok.most, ok.lo, ok.hi⟩, cap, v, ?_, ?_, own_keep hB (fun b hb => heap_setCells_other _ _ (fun e => a3 (by rw [hb, e])) _ _ _), rfl⟩
  · rw [heap_setCells_other L g a1, hlen]
    exact hg
  · show World.ownsRow _ 0 88 64 (.slice (some ⟨L, 0, none⟩) (s.last.set p x).length cap) (s.last.set p x).length (secV (s.last.set p x))
    rw [hlen, secV_set ok.sec hp x hx]
    refine own_setCells hL _ _ ?_
    rw [bv_length, hx]
    have : (p + 1) * 64 ≤ s.last.length * 64 := Nat.mul_le_mul_right _ hp
    omega
theorem Dk.range (h : Dk w g L q s) {k : Nat} (hk : k < s.buf.length) {A : Nat} (hA : q = some A) : w.rangeAt A (k * 65) (wV s.buf[k]) := by
  obtain ⟨cap, A', c, hg, hL, hB, hq⟩ := h.form
  obtain ⟨Q, rfl⟩ := own_some hB (by omega)
  rw [hA] at hq
  injection hq with hq
  simp only at hq
  subst hq
  exact buf_range hB (fun p hp => (h.ok.wr p hp).2) hk
theorem Dk.there_ (h : Dk w g L q s) {p : Nat} (hp : p < s.last.length) : w.there L (p * 64) 64 := by
  obtain ⟨ok, cap, v, hg, hL, hB, rfl⟩ := h
  refine own_there hL _ _ ?_
  have : (p + 1) * 64 ≤ s.last.length * 64 := Nat.mul_le_mul_right _ hp
  omega
end
theorem Try.size66 : (Try.prog.info? 90).map (·.size) = some 65 := by kernel_rfl
theorem Try.zero66 : ∃ Z : Array Value, (∀ w, (zeroValue 90).run Try.prog w = .ok (.agg Z) w) ∧ Z = (wV (0, zer)).toArray := ⟨_, zero_of_info (n := 65) (by kernel_rfl) |>.1, rfl⟩
theorem wV_length (p : Nat × List UInt8) (h : p.2.length = 64) : (wV p).length = 65 := by simp [wV, bv_length, h]
theorem size66_of (p : Nat × List UInt8) (h : p.2.length = 64) : (Try.prog.info? 90).map (·.size) = some (wV p).length := by rw [Try.size66, wV_length p h]
theorem range_block {w : World} {b : Nat} {l : List Value} {t : TypeId} {fr : Nat × Nat} (h : w.heap[b]? = some (.cells l.toArray t fr)) : w.rangeAt b 0 l := fun j v hv => by
  rw [cell_of_row w b (0 + j) _ t fr h]
  simpa using hv

theorem foot_L {g L : Nat} {q : Option Nat} : Foot g L q L := Or.inr (Or.inl rfl)
theorem foot_g {g L : Nat} {q : Option Nat} : Foot g L q g := Or.inl rfl
/-- the variable of one round is filled: what is known -/
theorem round_facts {w W : World} {g L : Nat} {q : Option Nat} {s : D} {S : Nat → Prop} {w0 : World} {Z : Array Value} {p : Nat × List UInt8} (h : Dk w g L q s) (hc : Chg S w0 w) (hW : W = w.alloc (.cells Z 90)) (hp : p.1 < s.last.length) (hx : p.2.length = 64) :
    ∃ V, V = (W.setRow w.heap.size (wV p).toArray).drew ∧ V.heap[w.heap.size]? = some (.cells (wV p).toArray 90 (0, 0)) ∧ Dk V g L q s ∧ Chg S w0 V ∧ Dk (V.setCells L (p.1 * 64) (bv p.2)) g L q ⟨s.last.set p.1 p.2, s.buf, s.left⟩ ∧ (S L → Chg S w0 (V.setCells L (p.1 * 64) (bv p.2))) ∧
      (∃ cap, V.cell? ⟨g, 0, none⟩ = some (.slice (some ⟨L, 0, none⟩) s.last.length cap)) := by
  obtain ⟨g1, g2⟩ := new_filled hW
  have b1 := below_setRow g2 (Nat.le_refl _) (wV p).toArray
  have b2 : Below w.heap.size w ((W.setRow w.heap.size (wV p).toArray).drew) := b1.drew
  have k1 := h.below b2
  have k2 : Chg S w0 ((W.setRow w.heap.size (wV p).toArray).drew) := hc.trans (Chg.of_below (S := S) b2) (fun _ _ h => h)
  refine ⟨_, rfl, setRow_heap W _ _ _ _ _ g1, k1, k2, k1.setSec hp hx, fun hS => k2.setCells (.inl hS) _ _, ?_⟩
  obtain ⟨cap, A', c, hg, _⟩ := k1.form
  exact ⟨cap, (box_cells hg).1⟩

set_option maxRecDepth 100000 in
set_option maxHeartbeats 1000000 in
theorem settle_any (w : World) (g L : Nat) (q : Option Nat) (s : D) (h : Dk w g L q s) (A : Option Addr) (k c : Nat) (hk : k ≤ s.buf.length) (hA : 0 < k → ∃ Q, A = some ⟨Q, 0, none⟩ ∧ q = some Q) (hn : s.buf.length ≤ 4611686018427387904) :
    Calls Try.prog 36 #[.pointer (some ⟨g, 0, none⟩), .slice A k c] w fun e w' => e = .returned (.tuple #[]) ∧ Dk w' g L q ⟨settle s.last (s.buf.take k), s.buf, s.left⟩ ∧ Chg (Foot g L q) w w' := by
  have H := Lib.hid h
  have HA := Lib.hid hA
  have hwr := Lib.hid (h.ok.wr)
  clear h hA
  obtain ⟨Z, hZ, hZs'⟩ := Try.zero66
  have hZs : Z.size = 65 := by rw [hZs']; rfl
  clear hZs'
  go_enter Try.func36, Try.ntmps36
  go_wp2_with fail
  go_loopw [8] (fun t wr => ∃ j : Nat, j ≤ k ∧ t = .int .i64 (j : Int) ∧ Dk wr g L q ⟨settle s.last (s.buf.take j), s.buf, s.left⟩ ∧ Chg (Foot g L q) w wr) (fun t _ => k - (intOf t).toNat)
  case atStart => exact ⟨0, by omega, rfl, by rw [List.take_zero]; exact H.out, Chg.refl _ _⟩
  case round =>
    obtain ⟨j, hj, rfl, hD, hC⟩ := hrel
    have HD := Lib.hid hD
    have HC := Lib.hid hC
    clear hD hC
    by_cases hlt : j < k
    · obtain ⟨Q, rfl, rfl⟩ := HA.out (by omega)
      have hjb : j < s.buf.length := by omega
      have hrg := HD.out.range (k := j) hjb rfl
      have hp := hwr.out _ (List.getElem_mem hjb)
      have hst := settle_take s.last s.buf j hjb
      have hpl : s.buf[j].1 < (settle s.last (s.buf.take j)).length := by rw [settle_length]; exact hp.1
      have HST := Lib.hid hst
      simp only at hrg
      generalize s.buf[j] = p at *
      have HRG := Lib.hid hrg
      have HP := Lib.hid hp
      have HPL := Lib.hid hpl
      have HI := Lib.hid (size66_of p hp.2)
      have hi' : (Try.prog.info? 90).map (·.size) = some (wV p).toArray.size := by simpa using size66_of p hp.2
      have HI' := Lib.hid hi'
      have hi64 : (Try.prog.info? 88).map (·.size) = some (bv p.2).length := size64_of (by rw [bv_length]; exact hp.2)
      have HI64 := Lib.hid hi64
      have hi64' : (Try.prog.info? 88).map (·.size) = some (bv p.2).toArray.size := by simpa using hi64
      have HI64' := Lib.hid hi64'
      have hzx : Z.size = (wV p).toArray.size := by rw [hZs]; simp [wV_length p hp.2]
      have HZX := Lib.hid hzx
      have H1 := Lib.hid (all_oneCell_toArray (wV_one p))
      have H2 := Lib.hid (all_oneCell_toArray (bv_one p.2))
      have hsz : (bv p.2).toArray.size = 64 := by simp [bv_length, hp.2]
      have HSZ := Lib.hid hsz
      have hj0 : (0 : Int) ≤ (j : Int) := Int.natCast_nonneg _
      have hj1 : (j : Int) < (k : Int) := by omega
      have hp0 : (0 : Int) ≤ (p.1 : Int) := Int.natCast_nonneg _
      have hp1 : (p.1 : Int) < ((settle s.last (s.buf.take j)).length : Int) := by omega
      clear hi' hi64 hi64' hzx hsz hp hpl hrg hst hZs HA
      go_wp2_with (first
        | (with_reducible refine wpList_load_mid rfl 90 (.tmp 10) rfl Q (j * 65) rfl (wV p) _ HRG.out Try.underlying90 rfl HI.out ?_)
        | (with_reducible refine wpList_alloc_new rfl 90 rfl Z hZ ?_; intro W hW; obtain ⟨V, hV, hf, hD1, hC1, hD2, hC2, cap, c0⟩ := round_facts HD.out HC.out hW.out HPL.out HP.out.2; obtain ⟨g1, g2⟩ := new_filled hW.out; have G1 := Lib.hid g1; have HV := Lib.hid hV; have HF := Lib.hid hf; have HD1 := Lib.hid hD1; have HD2 := Lib.hid hD2; have HC2 := Lib.hid (hC2 foot_L); clear g1 g2 hW hV hf hD1 hC1 hD2 hC2)
        | (with_reducible refine wpList_store_row rfl 90 (.tmp 5) (.tmp 11) rfl wr.heap.size (wV p).toArray rfl rfl 90 Z G1.out HI'.out HZX.out H1.out ?_))
      refine wp_region_tail 9 V HV.out (by kernel_rfl) (by kernel_rfl) ?_
      have hrb := range_block HF.out
      have hpc := buf_place hrb
      have HRB := Lib.hid (buf_bytes hrb)
      have HTH := Lib.hid (HD1.out.there_ HPL.out)
      clear hrb HF HD1
      simp only [List.take_succ_cons, List.take_zero, List.drop_succ_cons, List.drop_zero]
      iterate 7 still_step
      refine wpStill_load_mid rfl 88 (.tmp 18) rfl wr.heap.size (0 + 1) rfl (bv p.2) _ HRB.out Try.underlying88 rfl HI64.out ?_
      still_step
      refine wpStill_nil ?_
      refine wpList_store_mid rfl 88 (.tmp 20) (.tmp 19) rfl L (p.1 * 64) (bv p.2).toArray rfl rfl (by rw [HSZ.out]; exact HTH.out) HI64'.out H2.out ?_
      rw [List.toList_toArray]
      have HS := Lib.hid (HST.out ▸ HD2.out : Dk (V.setCells L (p.1 * 64) (bv p.2)) g L (some Q) ⟨settle s.last (s.buf.take (j + 1)), s.buf, s.left⟩)
      clear HD2 HTH HRB HV HST
      generalize V.setCells L (p.1 * 64) (bv p.2) = X at *
      go_wp2_with fail
      go_roundw
      case rel => exact ⟨j + 1, by omega, by go_num, HS.out, HC2.out⟩
      case measure => simp [intOf]; omega
    · obtain rfl : j = k := by omega
      go_wp2_with fail
      go_end0
      exact ⟨rfl, HD.out, HC.out⟩

/-- the buffer is empty -/
theorem Dk.nobuf {w : World} {g L : Nat} {q : Option Nat} {s : D} (h : Dk w g L q s) : Dk (w.setCell ⟨g, 1, none⟩ (.slice none 0 0)) g L none ⟨s.last, [], s.left⟩ := by
  obtain ⟨a1, a2, a3⟩ := h.apart
  obtain ⟨ok, cap, v, hg, hL, hB, rfl⟩ := h
  refine ⟨⟨ok.sec, by simp, ok.pos, ok.most, ok.lo, ok.hi⟩, cap, .slice none 0 0, heap_setCell_at hg 1 _, own_keep hL (fun b hb => ?_), World.ownsRow_nil _ _ _ _, rfl⟩
  injection hb with hb
  subst hb
  exact Below.heap_setCell _ _ _ _ (Ne.symm a1)

set_option maxRecDepth 100000 in
set_option maxHeartbeats 1000000 in
theorem flush_any (w : World) (g L : Nat) (q : Option Nat) (s : D) (h : Dk w g L q s) (hn : s.buf.length ≤ 4611686018427387904) :
    Calls Try.prog 51 #[.pointer (some ⟨g, 0, none⟩)] w fun e w' => e = .returned (.int .i64 s.fErr) ∧ After w w' g L q s.fSt := by
  have HD := Lib.hid (down_any w g L q s h)
  by_cases h0 : s.left = 0
  · have fin : After w w g L q s.fSt := by
      unfold D.fSt
      rw [if_pos h0]
      exact After.same h (Below.refl _ _)
    have hf : s.fErr = 32 := by unfold D.fErr; rw [if_pos h0]
    have HF := Lib.hid fin
    clear h fin
    go_enter Try.func51, Try.ntmps51
    go_wp2_with fail
    refine HD.out.mono ?_
    rintro e w1 ⟨rfl, rfl⟩
    go_wp2_with fail
    go_ret
    exact ⟨by rw [hf]; rfl, HF.out⟩
  · have hf : s.fErr = 0 := by unfold D.fErr; rw [if_neg h0]
    have hst : s.fSt = ⟨settle s.last s.buf, [], tick s.left⟩ := by unfold D.fSt; rw [if_neg h0]
    have HST := Lib.hid hst
    obtain ⟨cap, A, c, hg, _, hB, hq⟩ := h.form
    obtain ⟨_, c1, _, _⟩ := box_cells hg
    have HS := Lib.hid (settle_any w g L q s h A s.buf.length c (Nat.le_refl _) (fun h0 => by obtain ⟨Q, rfl⟩ := own_some hB h0; exact ⟨Q, rfl, hq.symm⟩) hn)
    rw [List.take_length] at HS
    clear h hst hg hB hq
    go_enter Try.func51, Try.ntmps51
    go_wp2_with fail
    refine HD.out.mono ?_
    rintro e w1 ⟨rfl, rfl⟩
    go_wp2_with fail
    refine HS.out.mono ?_
    rintro e w2 ⟨rfl, hd2, hc2⟩
    obtain ⟨cap2, A2, c2, hg2, _⟩ := hd2.form
    obtain ⟨_, c12, _, f2⟩ := box_cells hg2
    have f12 := f2 1
    have HD2 := Lib.hid hd2.nobuf
    have HC2 := Lib.hid (hc2.setCell (.inl foot_g) (.slice none 0 0) (p := ⟨g, 1, none⟩))
    clear hd2 hc2 hg2 f2 HS HD
    go_wp2_with fail
    generalize w2.setCell ⟨g, 1, none⟩ (.slice none 0 0) = w3 at *
    refine (count_any w3 g L none _ HD2.out).mono ?_
    rintro e w4 ⟨rfl, hd4, hc4⟩
    have H4 := Lib.hid hd4
    have HC4 := Lib.hid (HC2.out.trans hc4 (fun x _ hx => by rcases hx with rfl | rfl | hx; exact Or.inl rfl; exact Or.inr (Or.inl rfl); cases hx))
    clear hd4 hc4
    go_wp2_with fail
    go_ret
    refine ⟨by rw [hf]; rfl, ?_⟩
    rw [HST.out]
    exact ⟨none, H4.out, HC4.out, fun _ h => by cases h⟩
end Go.Proofs.Ytbfhlleipeipbaa
