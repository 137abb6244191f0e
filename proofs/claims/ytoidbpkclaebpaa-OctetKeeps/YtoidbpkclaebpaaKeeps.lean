/-
  What is proved: the walk of the law OctetKeeps: for all bytes and every number it returns true and turns nothing that was there. Conditions: the bytes' length is within Go's own reach.
-/
import Derived.Test.YtoidbpkclaebpaaReads
import Derived.Laws.CopyOwn
import Derived.Deep.AppendLies
namespace Go.Proofs.Ytoidbpkclaebpaa
open Go.RowKit

theorem zeros_made (k : Nat) : madeCells #[Value.int .u8 0] k = (bv (List.replicate k 0)).toArray := by
  apply Array.ext'
  rw [toList_madeCells_one]
  simp [bv]
theorem splice_zeros (l : List UInt8) (k : Nat) : splice (bv (List.replicate (l.length + k) 0)) 0 (bv l) = bv (l ++ List.replicate k 0) := by
  unfold splice
  rw [List.take_zero, List.nil_append, Nat.zero_add, bv_length, bv_append]
  congr 1
  simp [bv]
/-- a block that is known whole reads as its bytes -/
theorem Hold.block {w : World} {g : Nat} {l : List UInt8} {t : TypeId} {fr : Nat × Nat} (h : w.heap[g]? = some (.cells (bv l).toArray t fr)) (n : Nat) (hn : n = l.length) : Hold w (some ⟨g, 0, none⟩) n n l := by
  subst hn
  refine ⟨rfl, Nat.le_refl _, (fun e => by cases e), fun _ => ⟨g, 0, rfl, fun j hj => ?_⟩⟩
  rw [cell_of_row w g (0 + j) (bv l).toArray t fr h]
  have := (bv_get l j (.int .u8 (l[j].toNat : Int))).2 ⟨hj, rfl⟩
  simpa using this
theorem bv_set (l : List UInt8) (j : Nat) (b : UInt8) : (bv l).set j (.int .u8 (b.toNat : Int)) = bv (l.set j b) := by
  simp [bv, List.map_set]

/-- these bytes lie elsewhere than in block q -/
def Far (q : Option Nat) (w : World) (A : Option Addr) (n c : Nat) (l : List UInt8) : Prop := Hold w A n c l ∧ ∀ b off, 0 < n → A = some ⟨b, off, none⟩ → some b ≠ q
section
variable {w w' : World} {q : Option Nat} {A : Option Addr} {n c : Nat} {l : List UInt8}
theorem Far.below (h : Far q w A n c l) (hb : Below w.heap.size w w') : Far q w' A n c l := ⟨h.1.below hb, h.2⟩
theorem Far.grown (h : Far q w A n c l) (hg : w.grownBy w' q) : Far q w' A n c l := by
  refine ⟨⟨h.1.1, h.1.2.1, h.1.2.2.1, fun hn => ?_⟩, h.2⟩
  obtain ⟨b, off, e, hc⟩ := h.1.2.2.2 hn
  exact ⟨b, off, e, fun j hj => hg.cell (hc j hj) (h.2 b off hn e)⟩
theorem Far.own {base : Nat} (h : w.ownsRow base 5 1 (.slice A n c) n (bv l)) (hq : ∀ k, q = some k → k < base) : Far q w A n c l := by
  refine ⟨Hold.of_own h, fun b off _ e he => ?_⟩
  subst e
  have h1 := (h.lt b rfl).1
  have h2 := hq b he.symm
  omega
theorem Far.old {W : World} (h : Hold w A n c l) (hb : Below w.heap.size w W) (hq : ∀ k, q = some k → w.heap.size ≤ k) : Far q W A n c l := by
  refine ⟨h.below hb, fun b off hn e he => ?_⟩
  obtain ⟨b', off', e', hc⟩ := h.2.2.2 hn
  rw [e] at e'
  injection e' with e'
  injection e' with h1 h2
  have h3 := hq b he.symm
  have h4 : b' < w.heap.size := by
    have := World.block_lt_of_cell? w _ (hc 0 (by rw [h.1]; exact hn))
    exact this
  omega
end

set_option maxRecDepth 100000 in
set_option maxHeartbeats 2000000 in
theorem octetKeeps_walk (A : Option Addr) (n c : Nat) (l : List UInt8) (x : Int) (w : World) (h : Hold w A n c l) (hn : n ≤ 140737488351232) :
    Calls Try.prog 7 #[.slice A n c, .int .i64 x] w fun e w' => e = .returned (.bool true) ∧ Below w.heap.size w w' := by
  obtain ⟨i0, hi, hz0, hz1, hz2⟩ := info_parts Try.info5
  have hll := Lib.hid h.1
  have H := Lib.hid h
  clear h
  have hmk : ∀ u : World, (Instr.makeSlice 22 (.int .i64 ((n : Int) + 64)) (.int .i64 ((n : Int) + 64))).run Try.prog u =
      .ok (.slice (some ⟨u.heap.size, 0, none⟩) (n + 64) (n + 64)) (u.alloc (.cells (bv (List.replicate (n + 64) 0)).toArray 5)) := fun u => by
    have h := run_make (P := Try.prog) u 22 5 i0 (.int .u8 0) Try.underlying22 hi hz0 .i64 .i64 ((n : Int) + 64) ((n : Int) + 64) (by omega) (Int.le_refl _) (by rw [hz2]; omega) (by omega)
    have e : ((n : Int) + 64).toNat = n + 64 := by omega
    rw [e] at h
    rw [h, hz1, ← zeros_made]
    simp [Value.cells]
  go_enter Try.func7, Try.ntmps7
  go_wp2_with (first
    | (at_builtin; refine wpList_append_hold rfl (.tmp 14) (.tmp 15) rfl w.heap.size (.slice none 0 0) 0 [] rfl (World.ownsRow_nil _ _ _ _) A n c l rfl H.out (by omega) (Nat.le_refl _) ?_; intro Am cm w1 hown1 hgrow1; simp only [Nat.zero_add, List.nil_append] at hown1; have hb1 : Below w.heap.size w w1 := (Below.refl _ _).grown hgrow1 (Nat.le_refl _) (by simp [Value.ownBlock]); have HO := Lib.hid hown1; clear hown1 hgrow1)
    | (with_reducible refine wpList_copy_splice rfl (.tmp 21) (.tmp 22) 22 22 rfl 5 Try.underlying22 (by kernel_rfl) _ _ _ _ _ _ rfl rfl w1.heap.size 0 (bv (List.replicate (n + 64) 0)) 5 ?g1 (bv l) ?g2 ?g3 ?g4 (bv_one l) w1.heap.size w1 ?g5 (Nat.le_refl _) ?_))
  case g1 => exact heap_at _ _ _ rfl
  case g2 => rw [bv_length, hll.out]; exact (Nat.min_eq_left (by omega)).symm
  case g3 =>
    intro h0
    have hb : Below w1.heap.size w1 (w1.alloc (Obj.cells (bv (List.replicate (n + 64) 0)).toArray 5)) := (Below.refl _ _).alloc (Nat.le_refl _) _
    have H1 := (H.out.below hb1).below hb
    obtain ⟨b0, off, e, _⟩ := H1.2.2.2 (by rw [bv_length, hll.out] at h0; exact h0)
    exact ⟨_, e, H1.cells _ e⟩
  case g4 => simp [bv_length, hll.out]
  case g5 => exact (Below.refl _ _).alloc (Nat.le_refl _) _
  intro w2 HG2 hb2'
  have hrow : w2.heap[w1.heap.size]? = some (.cells (bv (l ++ List.replicate 64 0)).toArray 5 (0, 0)) := by
    have := HG2.out
    rw [← hll.out, splice_zeros] at this
    exact this
  have hb2 : Below w.heap.size w w2 := hb1.trans (hb2'.mono hb1.size)
  have hq : ∀ k, (Value.slice Am n cm).ownBlock = some k → w.heap.size ≤ k ∧ k < w1.heap.size := HO.out.lt
  have hgr : w1.heap.size < w2.heap.size := (Array.getElem?_eq_some_iff.1 hrow).1
  have HR2 : Hid (Far (Value.slice Am n cm).ownBlock w2 (some ⟨w1.heap.size, 0, none⟩) (n + 64) (n + 64) (l ++ List.replicate 64 0)) :=
    Lib.hid ⟨Hold.block hrow (n + 64) (by rw [List.length_append, hll.out]; simp), fun b off _ e he => by
      injection e with e
      injection e with h1 h2
      have := (hq b he.symm).2
      omega⟩
  have HM2 := Lib.hid (own_below HO.out hb2')
  have HQ := Lib.hid hq
  clear HG2 hrow HO hb2' hb1 hq
  generalize w1.heap.size = gr at *
  have et : (l ++ List.replicate 64 0).take n = l := by rw [← hll.out, List.take_left]
  have T : ∀ W, Far (Value.slice Am n cm).ownBlock W (some ⟨gr, 0, none⟩) (n + 64) (n + 64) (l ++ List.replicate 64 0) → Hold W (some ⟨gr, 0, none⟩) n (n + 64) l := by
    intro W hW
    have := hW.1.take (k := n) (by omega)
    rwa [et] at this
  have HTk := Lib.hid T
  clear et T hmk
  have hqlt : ∀ W : World, w2.heap.size ≤ W.heap.size → ∀ k, (Value.slice Am n cm).ownBlock = some k → k < W.heap.size := fun W hW k hk => by
    have := (HQ.out k hk).2
    omega
  have HQL := Lib.hid hqlt
  clear hqlt
  -- the three that lay something behind the first bytes of the room
  go_wp2_with fail
  refine (putInt_any (some ⟨gr, 0, none⟩) n (n + 64) l x w2 (HTk.out _ HR2.out) (by omega)).mono ?_
  rintro e w3 ⟨A3, n3, c3, rfl, o3, b3'⟩
  have X3 := Lib.hid (Far.own (q := (Value.slice Am n cm).ownBlock) o3 (HQL.out _ (Nat.le_refl _)))
  have R3 := Lib.hid (HR2.out.below b3')
  have M3 := Lib.hid (own_below HM2.out b3')
  have b3 := hb2.trans (b3'.mono hb2.size)
  have s3 : w2.heap.size ≤ w3.heap.size := b3'.size
  clear o3 HR2 HM2 hb2 b3'
  go_wp2_with fail
  refine (putText_any (some ⟨gr, 0, none⟩) n (n + 64) l ⟨#[122, 122]⟩ w3 (HTk.out _ R3.out) (by show n + 2 ≤ _; omega)).mono ?_
  rintro e w4 ⟨A4, n4, c4, rfl, o4, b4'⟩
  have Y4 := Lib.hid (Far.own (q := (Value.slice Am n cm).ownBlock) o4 (HQL.out _ s3))
  have X4 := Lib.hid (X3.out.below b4')
  have R4 := Lib.hid (R3.out.below b4')
  have M4 := Lib.hid (own_below M3.out b4')
  have b4 := b3.trans (b4'.mono b3.size)
  have s4 : w2.heap.size ≤ w4.heap.size := Nat.le_trans s3 b4'.size
  clear o4 X3 R3 M3 b3 b4' s3
  go_wp2_with fail
  refine (putBool_any (some ⟨gr, 0, none⟩) n (n + 64) l true w4 (HTk.out _ R4.out) (by omega)).mono ?_
  rintro e w5 ⟨A5, n5, c5, rfl, o5, b5'⟩
  have Z5 := Lib.hid (Far.own (q := (Value.slice Am n cm).ownBlock) o5 (HQL.out _ s4))
  have Y5 := Lib.hid (Y4.out.below b5')
  have X5 := Lib.hid (X4.out.below b5')
  have R5 := Lib.hid (R4.out.below b5')
  have M5 := Lib.hid (own_below M4.out b5')
  have b5 := b4.trans (b5'.mono b4.size)
  have s5 : w2.heap.size ≤ w5.heap.size := Nat.le_trans s4 b5'.size
  clear o5 Y4 X4 R4 M4 b4 b5' s4
  go_wp2_with fail
  refine (read_any Am n cm l w5 (Hold.of_own M5.out) (by omega)).mono ?_
  rintro e w6 ⟨g, rfl, _, hcl, b6', hg6, hg6'⟩
  have hcl6 : ∀ W : World, w6.grownBy W (Value.slice Am n cm).ownBlock → Rdr W g (some l) := by
    intro W hW
    refine hcl W (fun k hk1 hk2 => hW.block k hk2 (fun e => ?_))
    have := HQL.out _ s5 k e.symm
    omega
  have HCL := Lib.hid hcl6
  have Z6 := Lib.hid (Z5.out.below b6')
  have Y6 := Lib.hid (Y5.out.below b6')
  have X6 := Lib.hid (X5.out.below b6')
  have R6 := Lib.hid (R5.out.below b6')
  have M6 := Lib.hid (own_below M5.out b6')
  have b6 := b5.trans (b6'.mono b5.size)
  have hgw : w.heap.size ≤ g := Nat.le_trans b5.size hg6
  clear hcl hcl6 Z5 Y5 X5 R5 M5 b5 b6' s5
  go_wp2_with fail
  go_loopw [11] (fun i wr => ∃ (k : Nat) (lm : List UInt8), k ≤ n ∧ i = .int .i64 k ∧ wr.ownsRow w.heap.size 5 1 (.slice Am n cm) n (bv lm) ∧ w6.grownBy wr (Value.slice Am n cm).ownBlock) (fun i _ => n - (intOf i).toNat)
  case atStart => exact ⟨0, l, Nat.zero_le _, rfl, M6.out, World.grownBy.refl _ _⟩
  case round =>
    obtain ⟨k, lm, hk, rfl, hown, hgrow⟩ := hrel
    by_cases hlt : k < n
    · obtain ⟨gm, cap, hv, hgm1, hgm2⟩ := hown.form (by omega)
      injection hv with h1 h2 h3
      subst h1 h3
      have hlm : lm.length = n := by have := hown.1; rw [bv_length] at this; omega
      have hkl : k < lm.length := by omega
      have hck : wr.cell? ⟨gm, k, none⟩ = some (.int .u8 (lm[k].toNat : Int)) := by
        rw [hown.cellAt k (by omega)]
        exact (bv_get lm k _).2 ⟨hkl, rfl⟩
      have hfk := hown.frozenAt k
      have hst := hown.stored k (.int .u8 ((byteOf ((lm[k].toNat : Int) + 1)).toNat : Int))
      rw [bv_set, byteOf_cast] at hst
      have HST := Lib.hid hst
      have hbl := (lm[k]).toNat_lt
      generalize (lm[k]).toNat = t at *
      have HW := Lib.hid hown
      clear hst hown hlm
      go_wp2
      go_roundw
      case rel => exact ⟨k + 1, _, by omega, by go_num, HST.out.1, grown_trans hgrow HST.out.2⟩
      case measure => simp [intOf]; omega
    · obtain rfl : k = n := by omega
      have bw : Below w.heap.size w wr := b6.grown hgrow b6.size (fun k hk => (HQ.out k hk).1)
      have hA6 : Far (Value.slice Am k cm).ownBlock w6 A k c l := Far.old H.out b6 (fun k hk => (HQ.out k hk).1)
      have B7 := Lib.hid (hA6.grown hgrow).1
      have X7 := Lib.hid (X6.out.grown hgrow).1
      have Y7 := Lib.hid (Y6.out.grown hgrow).1
      have Z7 := Lib.hid (Z6.out.grown hgrow).1
      have R7 := Lib.hid (R6.out.grown hgrow).1
      have hr7 := HCL.out wr hgrow
      have hM8 : MRdr (wr.alloc (.cells #[.slice A k c, .int .i64 0, .bool false] 34)) wr.heap.size (some l) := by
        refine ⟨A, k, c, 0, l, heap_at _ _ _ rfl, B7.out.below ((Below.refl _ _).alloc (Nat.le_refl _) _), Nat.zero_le _, by omega, ?_⟩
        intro l' hl'
        injection hl' with hl'
      have hT8 : Two w g wr.heap.size (some l) (wr.alloc (.cells #[.slice A k c, .int .i64 0, .bool false] 34)) :=
        ⟨hr7.below ((Below.refl _ _).alloc (Nat.le_refl _) _), hM8, bw.alloc bw.size _, hgw, bw.size⟩
      have HT8 := Lib.hid hT8
      have hbA : Below wr.heap.size wr (wr.alloc (.cells #[.slice A k c, .int .i64 0, .bool false] 34)) := (Below.refl _ _).alloc (Nat.le_refl _) _
      have R8 := Lib.hid (R7.out.below hbA)
      have X8 := Lib.hid (X7.out.below hbA)
      have Y8 := Lib.hid (Y7.out.below hbA)
      have Z8 := Lib.hid (Z7.out.below hbA)
      have B8 := Lib.hid (B7.out.below hbA)
      clear hbA hT8 hM8 hr7 R7 X7 Y7 Z7 B7 hA6 X6 Y6 Z6 R6 M6 HCL hown hgrow bw b6 HQL HTk hlt hk
      go_wp2_with fail
      generalize wr.alloc (.cells #[.slice A k c, .int .i64 0, .bool false] 34) = w8 at *
      generalize wr.heap.size = m at *
      go_loop [13] (fun i => ∃ j : Nat, k ≤ j ∧ j ≤ k + 64 ∧ i = .int .i64 j) (fun i => (k + 64) - (intOf i).toNat)
      case atStart => exact ⟨k, Nat.le_refl _, by omega, rfl⟩
      case round =>
        obtain ⟨j, hj1, hj2, rfl⟩ := hrel
        by_cases hlt : j < k + 64
        · obtain ⟨b0, off0, hjl, e0, hc⟩ := R8.out.at hlt
          injection e0 with e0
          injection e0 with e1 e2
          subst e1 e2
          have hz : (l ++ List.replicate 64 0)[j] = 0 := by
            rw [List.getElem_append_right (by rw [hll.out]; exact hj1)]
            exact List.getElem_replicate ..
          rw [hz, Nat.zero_add] at hc
          have hc0 : w8.cell? ⟨gr, j, none⟩ = some (.int .u8 0) := hc
          clear hc hz
          go_wp2
          go_round
          case rel => exact ⟨j + 1, by omega, by omega, by go_num⟩
          case measure => simp [intOf]; omega
        · obtain rfl : j = k + 64 := by omega
          clear R8 hlt hj1 hj2
          go_wp2_with fail
          refine (awake_any w8).mono ?_
          rintro e w9 ⟨rfl, b9⟩
          have X9 := Lib.hid (X8.out.below b9)
          have Y9 := Lib.hid (Y8.out.below b9)
          have Z9 := Lib.hid (Z8.out.below b9)
          have B9 := Lib.hid (B8.out.below b9)
          have T9 := Lib.hid (show Two w g m (some l) w9 from ⟨HT8.out.rr.below b9, HT8.out.mm.below b9, HT8.out.b.trans (b9.mono HT8.out.b.size), HT8.out.hg, HT8.out.hm⟩)
          clear X8 Y8 Z8 B8 HT8 b9
          go_wp2_with fail
          refine (refInt_any A k c l x w9 B9.out (by omega)).mono ?_
          rintro e wa ⟨Aa, na, ca, rfl, oa, ba⟩
          have Ha := Lib.hid (Hold.of_own oa)
          have Xa := Lib.hid (X9.out.below ba)
          have Ya := Lib.hid (Y9.out.below ba)
          have Za := Lib.hid (Z9.out.below ba)
          have Ba := Lib.hid (B9.out.below ba)
          have Ta := Lib.hid (show Two w g m (some l) wa from ⟨T9.out.rr.below ba, T9.out.mm.below ba, T9.out.b.trans (ba.mono T9.out.b.size), T9.out.hg, T9.out.hm⟩)
          clear oa X9 Y9 Z9 B9 T9 ba
          go_wp2_with fail
          refine (same_any A3 Aa n3 c3 na ca _ _ wa Xa.out Ha.out).mono ?_
          rintro e w' ⟨rfl, rfl⟩
          rw [show ((l ++ dig x) == (l ++ dig x)) = true from beq_self_eq_true _]
          clear Xa Ha
          go_wp2_with fail
          refine (refText_any A k c l ⟨#[122, 122]⟩ wa Ba.out (by show k + 2 ≤ _; omega)).mono ?_
          rintro e wb ⟨Ab, nb, cb, rfl, ob, bb⟩
          have Hb := Lib.hid (Hold.of_own ob)
          have Yb := Lib.hid (Ya.out.below bb)
          have Zb := Lib.hid (Za.out.below bb)
          have Bb := Lib.hid (Ba.out.below bb)
          have Tb := Lib.hid (show Two w g m (some l) wb from ⟨Ta.out.rr.below bb, Ta.out.mm.below bb, Ta.out.b.trans (bb.mono Ta.out.b.size), Ta.out.hg, Ta.out.hm⟩)
          clear ob Ya Za Ba Ta bb
          go_wp2_with fail
          refine (same_any A4 Ab n4 c4 nb cb _ _ wb Yb.out Hb.out).mono ?_
          rintro e w' ⟨rfl, rfl⟩
          rw [beq_self_eq_true]
          clear Yb Hb
          go_wp2_with fail
          refine (refBool_any A k c l true wb Bb.out (by omega)).mono ?_
          rintro e wc ⟨Ac, nc, cc, rfl, oc, bc⟩
          have Hc := Lib.hid (Hold.of_own oc)
          have Zc := Lib.hid (Zb.out.below bc)
          have Tc := Lib.hid (show Two w g m (some l) wc from ⟨Tb.out.rr.below bc, Tb.out.mm.below bc, Tb.out.b.trans (bc.mono Tb.out.b.size), Tb.out.hg, Tb.out.hm⟩)
          clear oc Zb Bb Tb bc
          go_wp2_with fail
          refine (same_any A5 Ac n5 c5 nc cc _ _ wc Zc.out Hc.out).mono ?_
          rintro e w' ⟨rfl, rfl⟩
          rw [beq_self_eq_true]
          clear Zc Hc
          go_wp2_with fail
          refine (int_any g (some l) wc Tc.out.rr).mono ?_
          rintro e wd ⟨rfl, hrd, hgd⟩
          have Td := Lib.hid (Tc.out.ahead hrd hgd)
          clear hrd hgd Tc
          go_wp2_with fail
          refine (mint_any m (some l) wd Td.out.mm).mono ?_
          rintro e we ⟨rfl, hre, hge⟩
          have Te := Lib.hid (Td.out.two hre hge)
          clear hre hge Td
          generalize (stInt (some l)).1 = v at *
          generalize (stInt (some l)).2 = sv at *
          go_wp2_with fail
          refine (left_any g sv we Te.out.rr).mono ?_
          rintro e wf ⟨rfl, rfl⟩
          go_wp2_with fail
          refine (mleft_any m sv we Te.out.mm).mono ?_
          rintro e wf ⟨rfl, hrf, hgf⟩
          have bf := below_grown Te.out.b hgf Te.out.hm
          clear hrf hgf Te
          go_wp2
          go_ret
          exact ⟨rfl, bf⟩
end Go.Proofs.Ytoidbpkclaebpaa
