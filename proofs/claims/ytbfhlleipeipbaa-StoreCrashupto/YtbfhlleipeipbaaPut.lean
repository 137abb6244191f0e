/-
  What is proved: what Write answers and leaves, told by the disk as lists.
-/
import Derived.Test.YtbfhlleipeipbaaCrash
import Derived.Test.YtbfhlleipeipbaaSsc
import Derived.Great.BuildSlice
namespace Go.Proofs.Ytbfhlleipeipbaa
open Go.RowKit

theorem wpList_build_one {P : Program} {w : World} {ops : Array Oper} {rest : List Oper} {o : Oper} {a : Act} {Q : Exit → Act → World → Prop} (hg : o.guard = none) (t : TypeId) (k : Nat) (x : Operand) (ho : o.op = .build t #[(k, x)]) (v : Value) (hx : a.eval x = v) (cs : Array Value)
    (hb : P.built t [(k, v)] = some cs) (h : wpList P ops Q rest (a.put o.dst (.agg cs)) w) : wpList P ops Q (o :: rest) a w := by
  subst hx
  have hb' : P.built t ((#[(k, x)] : Array (Nat × Operand)).map fun (i, x) => (i, a.eval x)).toList = some cs := by simpa using hb
  refine wpList_build hg t _ ho (by rw [hb']; rfl) ?_
  rw [hb']
  exact h
theorem built66 (m : Nat) : Try.prog.built 90 [(0, .int .i64 (m : Int))] = some (wV (m, zer)).toArray := by kernel_rfl

theorem wErr_zero {s : D} {i : Int} {n : Nat} (h : s.refuse i = 0) (hn : n ≤ 64) : s.wErr i n = 0 := by
  unfold D.wErr; rw [if_neg (by simp [h]), if_neg (by omega)]
theorem wErr_long {s : D} {i : Int} {n : Nat} (h : s.refuse i = 0) (hn : 64 < n) : s.wErr i n = 3 := by
  unfold D.wErr; rw [if_neg (by simp [h]), if_pos hn]
theorem wErr_ref {s : D} {i : Int} {n : Nat} (h : s.refuse i ≠ 0) : s.wErr i n = s.refuse i := by
  unfold D.wErr; rw [if_pos h]
theorem wSt_zero {s : D} {i : Int} {l : List UInt8} (h : s.refuse i = 0) (hn : l.length ≤ 64) : s.wSt i l = ⟨s.last, s.buf ++ [(i.toNat, pad l)], tick s.left⟩ := by
  unfold D.wSt; rw [if_neg (by simp [h]), if_neg (by omega)]
theorem wSt_long {s : D} {i : Int} {l : List UInt8} (h : s.refuse i = 0) (hn : 64 < l.length) : s.wSt i l = s := by
  unfold D.wSt; rw [if_neg (by simp [h]), if_pos hn]
theorem wSt_ref {s : D} {i : Int} {l : List UInt8} (h : s.refuse i ≠ 0) : s.wSt i l = s := by
  unfold D.wSt; rw [if_pos h]
theorem splice_pad (m : Nat) (l : List UInt8) : splice (wV (m, zer)) 1 (bv l) = wV (m, pad l) := by
  unfold splice
  have e : (wV (m, zer)).drop (1 + (bv l).length) = bv (List.replicate (64 - l.length) 0) := by
    show List.drop (1 + (bv l).length) (.int .i64 (m : Int) :: bv zer) = _
    rw [Nat.add_comm, List.drop_succ_cons, bv_length]
    unfold bv zer
    rw [List.map_replicate, List.map_replicate, List.drop_replicate]
  rw [e, ← bv_append]
  rfl
/-- the new variable is filled, and filled again in its midst -/
theorem fill_facts {w W : World} {cs cs' : Array Value} {t : TypeId} (hb : Below w.heap.size w W) (hr : W.heap[w.heap.size]? = some (.cells cs t (0, 0))) : (W.setRow w.heap.size cs').heap[w.heap.size]? = some (.cells cs' t (0, 0)) ∧ Below w.heap.size w (W.setRow w.heap.size cs') :=
  ⟨setRow_heap W _ _ _ _ _ hr, below_setRow hb (Nat.le_refl _) _⟩
theorem fill_more {w U : World} {cs : List Value} {t : TypeId} (hb : Below w.heap.size w U) (hr : U.heap[w.heap.size]? = some (.cells cs.toArray t (0, 0))) (o : Nat) (vs : List Value) (ho : o + vs.length ≤ cs.length) :
    (U.setCells w.heap.size o vs).heap[w.heap.size]? = some (.cells (splice cs o vs).toArray t (0, 0)) ∧ Below w.heap.size w (U.setCells w.heap.size o vs) ∧ U.there w.heap.size o vs.length := by
  obtain ⟨C', h1, h2, _⟩ := heap_setCells_at w.heap.size t (0, 0) vs o U _ hr (by simpa using ho)
  obtain ⟨k1, k2, k3, k4⟩ := setCells_keeps w.heap.size vs o U
  refine ⟨?_, ⟨k1.trans hb.os, k2.trans hb.tape, k3.trans hb.output, by rw [k4]; exact hb.size, fun b hlt => ?_⟩, fun j hj => ⟨?_, ?_⟩⟩
  · rw [h1]
    congr 2
    rw [← h2]
  · rw [heap_setCells_other _ _ (by omega)]
    exact hb.block b hlt
  · rw [cell_of_row U _ (o + j) _ t (0, 0) hr]
    have : o + j < cs.length := by omega
    simp [this]
  · simp [World.frozen?, hr]

theorem Try.info66 : (Try.prog.info? 90).map (fun i => (i.zero, i.size, i.bytes)) = some (some (.agg (wV (0, zer)).toArray), 65, 72) := by kernel_rfl
theorem run_build1 (w : World) (cs : List Value) (h : cs.length = 65) : (Instr.buildSlice 59 1 #[(0, .agg cs.toArray)]).run Try.prog w = .ok (.slice (some ⟨w.heap.size, 0, none⟩) 1 1) (w.alloc (.cells cs.toArray 90)) := by
  obtain ⟨i0, hi0, hz0, hz1, hz2⟩ := info_parts Try.info66
  have hz : ((wV (0, zer)).toArray).size = 65 := rfl
  refine run_buildSlice w 59 90 1 _ _ i0 _ Try.underlying59 hi0 hz0 (by rw [hz1]; decide) (by rw [hz1]; decide) ?_
  rw [hz1]
  have := Great.fill_whole (s := 65) (by omega) [.agg cs.toArray] ((Array.range (1 * 65)).map ((Value.agg (wV (0, zer)).toArray).cells[· % (Value.agg (wV (0, zer)).toArray).cells.size]!)) (by intro v hv; simp at hv; subst hv; simpa [Value.cells] using h) (by simp)
  simpa [Value.cells] using this
/-- the worlds of the statement that puts a write behind the others -/
def putW (V W6 W7 W10 : World) (ls : Nat → Bool) : World := if ls 10 = true then W10 else if ls 7 = true then W7 else if ls 6 = true then W6 else V
/-- the values of its operations -/
def putV (g B n Q cap : Nat) (A : Option Addr) (c : Nat) (p : Nat × List UInt8) : Nat → Value
  | 0 | 1 | 2 | 8 => .pointer (some ⟨g, 0, none⟩)
  | 3 | 9 => .pointer (some ⟨g, 1, none⟩)
  | 4 => .slice A n c
  | 5 => .agg (wV p).toArray
  | 6 => .slice (some ⟨B, 0, none⟩) 1 1
  | 7 => .slice (some ⟨Q, 0, none⟩) (n + 1) cap
  | _ => undef
theorem putW_0 {V W6 W7 W10 : World} {ls : Nat → Bool} (h10 : ls 10 = false) (h7 : ls 7 = false) (h6 : ls 6 = false) : putW V W6 W7 W10 ls = V := by simp [putW, h10, h7, h6]
theorem putW_6 {V W6 W7 W10 : World} {ls : Nat → Bool} (h10 : ls 10 = false) (h7 : ls 7 = false) (h6 : ls 6 = true) : putW V W6 W7 W10 ls = W6 := by simp [putW, h10, h7, h6]
theorem putW_7 {V W6 W7 W10 : World} {ls : Nat → Bool} (h10 : ls 10 = false) (h7 : ls 7 = true) : putW V W6 W7 W10 ls = W7 := by simp [putW, h10, h7]
theorem putW_10 {V W6 W7 W10 : World} {ls : Nat → Bool} (h10 : ls 10 = true) : putW V W6 W7 W10 ls = W10 := by simp [putW, h10]

set_option maxRecDepth 10000 in
/-- a write is put behind the others: all that is to be known -/
theorem put_facts {w V : World} {g L : Nat} {q : Option Nat} {s : D} {p : Nat × List UInt8} (h : Dk V g L q s) (hb : Below w.heap.size w V) (hp : p.1 < s.last.length) (hx : p.2.length = 64) (hn : (s.buf.length + 1) * 72 ≤ 140737488355328) :
    ∃ A c Q cap W7, V.cell? ⟨g, 1, none⟩ = some (.slice A s.buf.length c) ∧ (V.alloc (.cells (wV p).toArray 90)).cell? ⟨g, 1, none⟩ = some (.slice A s.buf.length c) ∧
      (∀ ty, (Builtin.append_ #[59, 59] ty #[.slice A s.buf.length c, .slice (some ⟨V.heap.size, 0, none⟩) 1 1]).run Try.prog (V.alloc (.cells (wV p).toArray 90)) = .ok (.slice (some ⟨Q, 0, none⟩) (s.buf.length + 1) cap) W7) ∧
      W7.cell? ⟨g, 1, none⟩ = some (.slice A s.buf.length c) ∧ W7.frozen? ⟨g, 1, none⟩ = false ∧
      (∃ q', Dk (W7.setCell ⟨g, 1, none⟩ (.slice (some ⟨Q, 0, none⟩) (s.buf.length + 1) cap)) g L q' ⟨s.last, s.buf ++ [p], s.left⟩ ∧ Chg (Foot g L q) w (W7.setCell ⟨g, 1, none⟩ (.slice (some ⟨Q, 0, none⟩) (s.buf.length + 1) cap)) ∧ ∀ k, q' = some k → q = some k ∨ w.heap.size ≤ k) := by
  obtain ⟨i0, hi0, hz0, hz1, hz2⟩ := info_parts Try.info66
  have hal := h.alloc (.cells (wV p).toArray 90)
  have ha := h.apart
  obtain ⟨cap0, A, c, hg, hL, hB, hq⟩ := h.form
  obtain ⟨_, c1, _, _⟩ := box_cells hg
  have hg' : (V.alloc (.cells (wV p).toArray 90)).heap[g]? = V.heap[g]? := Below.heap_alloc _ _ _ (h.lt g foot_g)
  rw [hg] at hg'
  obtain ⟨_, c1', _, _⟩ := box_cells hg'
  have hB' := hB.alloc (.cells (wV p).toArray 90)
  obtain ⟨Q, cap, W7, hr, hown, hgrow, hat, hlt⟩ := run_append_lies (P := Try.prog) (V.alloc (.cells (wV p).toArray 90)) 59 0 0 90 i0 _ 65 72 Try.underlying59 hi0 hz0 hz1 hz2 rfl (by omega) (.slice A s.buf.length c) s.buf.length (bufV s.buf) hB'
    ⟨V.heap.size, 0, none⟩ 1 1 (wV p) (by rw [wV_length p hx]) (World.news_of_block (cs := (wV p).toArray) (t := 90) (fr := (0, 0)) (heap_alloc_new V _)) (wV_one p) (by omega) (by unfold maxLen; omega) hn (by omega) _ rfl
  have hgq : some g ≠ (Value.slice A s.buf.length c).ownBlock := by rw [hq]; exact fun e => ha.2.1 e.symm
  have hLq : some L ≠ (Value.slice A s.buf.length c).ownBlock := by rw [hq]; exact fun e => ha.2.2 e.symm
  have gl := hal.lt g foot_g
  have ll := hal.lt L foot_L
  have hg7 : W7.heap[g]? = _ := (hgrow.block g gl hgq).trans hg'
  obtain ⟨_, c17, _, f7⟩ := box_cells hg7
  have hQ7 : Q ≠ g ∧ (q = some Q ∨ w.heap.size ≤ Q) := by
    rw [hq] at hat
    rcases hat with e | e
    · exact ⟨fun e' => ha.2.1 (by rw [e, e']), .inl e⟩
    · have hs := hb.size
      have hgl := h.lt g foot_g
      rw [World.size_alloc] at e
      exact ⟨by omega, .inr (by omega)⟩
  refine ⟨A, c, Q, cap, W7, c1, c1', fun ty => ?_, c17, f7 1, some Q, ⟨?_, cap0, .slice (some ⟨Q, 0, none⟩) (s.buf.length + 1) cap, ?_, ?_, ?_, rfl⟩, ?_, ?_⟩
  · exact hr
  · refine ⟨h.ok.sec, ?_, h.ok.pos, h.ok.most, h.ok.lo, h.ok.hi⟩
    intro x hxm
    rcases List.mem_append.1 hxm with hxm | hxm
    · exact h.ok.wr x hxm
    · simp at hxm
      subst hxm
      exact ⟨hp, hx⟩
  · exact heap_setCell_at hg7 1 _
  · refine own_keep hL fun b hbb => ?_
    injection hbb with hbb
    subst hbb
    rw [Below.heap_setCell _ _ _ _ (Ne.symm ha.1), hgrow.block L ll hLq, Below.heap_alloc _ _ _ (h.lt L foot_L)]
  · have := own_keep (w' := W7.setCell ⟨g, 1, none⟩ (.slice (some ⟨Q, 0, none⟩) (s.buf.length + 1) cap)) hown (fun b hbb => by injection hbb with hbb; simp only at hbb; subst hbb; exact Below.heap_setCell _ _ _ _ hQ7.1)
    simpa [bufV_snoc] using this
  · refine Chg.setCell (p := ⟨g, 1, none⟩) ?_ (.inl foot_g) _
    refine Chg.grown ((Chg.of_below hb).alloc _) hgrow (fun b hbb => ?_)
    rw [hq] at hbb
    exact .inl (Or.inr (Or.inr hbb))
  · intro k hk
    injection hk with hk
    subst hk
    exact hQ7.2

set_option maxRecDepth 100000 in
set_option maxHeartbeats 1000000 in
theorem write_done (w : World) (g L : Nat) (q : Option Nat) (s : D) (h : Dk w g L q s) (i : Int) (A : Option Addr) (n c : Nat) (l : List UInt8) (hl : Hold w A n c l) (hr : s.refuse i = 0) (hn : n ≤ 64) (hb : (s.buf.length + 1) * 72 ≤ 140737488355328) :
    Calls Try.prog 50 #[.pointer (some ⟨g, 0, none⟩), .int .i64 i, .slice A n c] w fun e w' => e = .returned (.int .i64 0) ∧ After w w' g L q ⟨s.last, s.buf ++ [(i.toNat, pad l)], tick s.left⟩ := by
  have HR := Lib.hid (refusal_any w g L q s h i)
  rw [hr] at HR
  obtain ⟨_, h1, h2⟩ := refuse_zero hr
  obtain ⟨m, rfl⟩ := Int.eq_ofNat_of_zero_le h1
  have H := Lib.hid h
  have HL := Lib.hid hl
  have hll := Lib.hid hl.1
  have HBU := Lib.hid (built66 m)
  obtain ⟨Z, hZ, hZs'⟩ := Try.zero66
  have hZs : Z.size = 65 := by rw [hZs']; rfl
  have hi' : (Try.prog.info? 90).map (·.size) = some (wV (m, zer)).toArray.size := by simpa using size66_of (m, zer) rfl
  have HI' := Lib.hid hi'
  have hzx : Z.size = (wV (m, zer)).toArray.size := by rw [hZs]; rfl
  have HZX := Lib.hid hzx
  have H1 := Lib.hid (all_oneCell_toArray (wV_one (m, zer)))
  clear h hl hr hi' hzx hZs hZs'
  have hn' : ¬ (64 : Int) < (n : Int) := by omega
  simp only [Int.toNat_natCast]
  go_enter Try.func50, Try.ntmps50
  go_wp2_with fail
  refine HR.out.mono ?_
  rintro e w1 ⟨rfl, rfl⟩
  go_wp2_with (first
    | (with_reducible refine wpList_build_one rfl 90 0 (.tmp 18) rfl (.int .i64 (m : Int)) rfl (wV (m, zer)).toArray HBU.out ?_)
    | (with_reducible refine wpList_alloc_new rfl 90 rfl Z hZ ?_; intro W hW; obtain ⟨g1, g2⟩ := new_filled hW.out; have G1 := Lib.hid g1; have G2 := Lib.hid g2; clear g1 g2 hW)
    | (with_reducible refine wpList_store_row rfl 90 (.tmp 8) (.tmp 19) rfl w1.heap.size (wV (m, zer)).toArray rfl rfl 90 Z G1.out HI'.out HZX.out H1.out ?_; have G3 := Lib.hid (fill_facts (cs' := (wV (m, zer)).toArray) G2.out G1.out); clear G1 G2; generalize W.setRow w1.heap.size (wV (m, zer)).toArray = U at *)
    | (with_reducible refine wpList_copy_cells rfl (.tmp 21) (.tmp 22) 43 43 rfl 5 Try.underlying43 (by kernel_rfl) _ _ _ _ _ _ rfl rfl w1.heap.size 1 (bv l) ?c1 ?c2 ?c3 (bv_one l) ?c4))
  case c1 => rw [bv_length, hll.out]; exact (Nat.min_eq_left hn).symm
  case c2 =>
    intro h0
    have H1 := HL.out.below G3.out.2
    obtain ⟨b0, off, e, _⟩ := H1.2.2.2 (by rw [bv_length, hll.out] at h0; exact h0)
    exact ⟨_, e, H1.cells _ e⟩
  case c3 => exact (fill_more G3.out.2 G3.out.1 1 (bv l) (by rw [bv_length, hll.out, wV_length _ rfl]; omega)).2.2
  case c4 =>
    obtain ⟨x1, x2, _⟩ := fill_more G3.out.2 G3.out.1 1 (bv l) (by rw [bv_length, hll.out, wV_length _ rfl]; omega)
    rw [splice_pad m l] at x1
    have X1 := Lib.hid x1
    have X2 := Lib.hid x2
    clear x1 x2 G3
    generalize U.setCells w1.heap.size 1 (bv l) = X at *
    have hDX := H.out.below X2.out
    obtain ⟨V, hV⟩ : ∃ V, V = X.drew := ⟨_, rfl⟩
    have hDX' : Dk V g L q s := by rw [hV]; exact hDX.drew
    have hX2' : Below w1.heap.size w1 V := by rw [hV]; exact X2.out.drew
    have hrgV : V.rangeAt w1.heap.size 0 (wV (m, pad l)) := by rw [hV]; exact (World.rangeAt_drew _ _ _ _).2 (range_block X1.out)
    have HV := Lib.hid hV
    obtain ⟨A2, c2, Q, cap, W7, k1, k2, k3, k4, k5, hfin⟩ := put_facts (p := (m, pad l)) hDX' hX2' (by omega) (pad_length l (by rw [hll.out]; exact hn)) hb
    have HFIN := Lib.hid hfin
    have HRG := Lib.hid hrgV
    obtain ⟨W6, hW6⟩ : ∃ W6, W6 = V.alloc (.cells (wV (m, pad l)).toArray 90) := ⟨_, rfl⟩
    have HI66 := Lib.hid (size66_of (m, pad l) (pad_length l (by rw [hll.out]; exact hn)))
    have HB1 := Lib.hid (run_build1 V (wV (m, pad l)) (wV_length _ (pad_length l (by rw [hll.out]; exact hn))))
    rw [← hW6] at k2 k3 HB1
    have K1 := Lib.hid k1
    have K2 := Lib.hid k2
    have K3 := Lib.hid k3
    have K4 := Lib.hid k4
    have K5 := Lib.hid k5
    clear k1 k2 k3 k4 k5 hfin hDX hDX' hX2' hrgV hV hW6 X1 X2 HBU HI' HZX H1 hZ HR
    go_wp2_with fail
    refine wp_region_chain (putV g V.heap.size s.buf.length Q cap A2 c2 (m, pad l)) (putW V W6 W7 (W7.setCell ⟨g, 1, none⟩ (.slice (some ⟨Q, 0, none⟩) (s.buf.length + 1) cap))) (by kernel_rfl) (by kernel_rfl) HV.out ?_ ?_
    · refine ⟨?_, ?_, ?_, ?_, ?_, ?_, ?_, ?_, ?_, ?_, ?_, trivial⟩
      · intro a ls hcl hi hd hoff hf
        left
        refine ⟨rfl, ?_⟩
        have e0 : a.tmps.getD 0 undef = .pointer (some ⟨g, 0, none⟩) := hoff.slot 0 (no_dst (by kernel_rfl))
        go_simp
        exact ⟨rfl, rfl⟩
      · intro a ls hcl hi hd hoff hf
        left
        refine ⟨rfl, ?_⟩
        have e0 : a.tmps.getD 0 undef = .pointer (some ⟨g, 0, none⟩) := hoff.slot 0 (no_dst (by kernel_rfl))
        go_simp
        exact ⟨rfl, rfl⟩
      · intro a ls hcl hi hd hoff hf
        left
        refine ⟨rfl, ?_⟩
        have e0 : a.tmps.getD 25 undef = .pointer (some ⟨g, 0, none⟩) := hf 1 _ (hd 1 rfl) rfl
        go_simp
        exact ⟨rfl, rfl⟩
      · intro a ls hcl hi hd hoff hf
        left
        refine ⟨rfl, ?_⟩
        have e0 : a.tmps.getD 26 undef = .pointer (some ⟨g, 0, none⟩) := hf 2 _ (hd 2 rfl) rfl
        go_simp
        exact ⟨rfl, rfl⟩
      · intro a ls hcl hi hd hoff hf
        left
        refine ⟨rfl, ?_⟩
        have e0 : a.tmps.getD 27 undef = .pointer (some ⟨g, 1, none⟩) := hf 3 _ (hd 3 rfl) rfl
        have h7 : ls 7 = false := hcl.no hi rfl rfl
        have h10 : ls 10 = false := hcl.no h7 rfl rfl
        have hc : (putW V W6 W7 (W7.setCell ⟨g, 1, none⟩ (.slice (some ⟨Q, 0, none⟩) (s.buf.length + 1) cap)) ls).cell? ⟨g, 1, none⟩ = some (.slice A2 s.buf.length c2) := by
          cases h6 : ls 6 with
          | false => rw [putW_0 h10 h7 h6]; exact K1.out
          | true => rw [putW_6 h10 h7 h6]; exact K2.out
        go_simp
        exact ⟨rfl, rfl⟩
      · intro a ls hcl hi hd hoff hf
        left
        refine ⟨rfl, ?_⟩
        have e0 : a.tmps.getD 8 undef = .pointer (some ⟨w1.heap.size, 0, none⟩) := hoff.slot 8 (no_dst (by kernel_rfl))
        have h6 : ls 6 = false := hcl.no hi rfl rfl
        have h7 : ls 7 = false := hcl.no h6 rfl rfl
        have h10 : ls 10 = false := hcl.no h7 rfl rfl
        refine wp_load_mid 90 (.tmp 8) rfl w1.heap.size 0 e0 (wV (m, pad l)) _ ?_ Try.underlying90 rfl HI66.out ⟨rfl, rfl⟩
        rw [putW_0 h10 h7 h6]
        exact HRG.out
      · intro a ls hcl hi hd hoff hf
        left
        refine ⟨rfl, ?_⟩
        have e0 : a.tmps.getD 29 undef = .agg (wV (m, pad l)).toArray := hf 5 _ (hd 5 rfl) rfl
        have h7 : ls 7 = false := hcl.no hi rfl rfl
        have h10 : ls 10 = false := hcl.no h7 rfl rfl
        have hw : putW V W6 W7 (W7.setCell ⟨g, 1, none⟩ (.slice (some ⟨Q, 0, none⟩) (s.buf.length + 1) cap)) (updB ls 6) = W6 := putW_6 h10 h7 rfl
        rw [hw, putW_0 h10 h7 hi]
        refine wp_value (v := .slice (some ⟨V.heap.size, 0, none⟩) 1 1) ?_ ⟨rfl, rfl⟩
        have e0' : a.eval (.tmp 29) = .agg (wV (m, pad l)).toArray := e0
        simp only [execOp, List.map_toArray, List.map_cons, List.map_nil, e0', Sem.run_bind, HB1.out, Result.andThen_ok]
        rfl
      · intro a ls hcl hi hd hoff hf
        left
        refine ⟨rfl, ?_⟩
        have e0 : a.eval (.tmp 28) = .slice A2 s.buf.length c2 := hf 4 _ (hd 4 rfl) rfl
        have e1 : a.eval (.tmp 30) = .slice (some ⟨V.heap.size, 0, none⟩) 1 1 := hf 6 _ (hd 6 rfl) rfl
        have h10 : ls 10 = false := hcl.no hi rfl rfl
        have hw : putW V W6 W7 (W7.setCell ⟨g, 1, none⟩ (.slice (some ⟨Q, 0, none⟩) (s.buf.length + 1) cap)) (updB ls 7) = W7 := putW_7 h10 rfl
        rw [hw, putW_6 h10 hi (hd 6 rfl)]
        refine wp_value (v := .slice (some ⟨Q, 0, none⟩) (s.buf.length + 1) cap) ?_ ⟨rfl, rfl⟩
        simp only [execOp, resolve, invoke, builtin, Sem.run_bind, Sem.run_pure, Result.andThen_ok, List.map_toArray, List.map_cons, List.map_nil, e0, e1, K3.out]
      · intro a ls hcl hi hd hoff hf
        left
        refine ⟨rfl, ?_⟩
        have e0 : a.tmps.getD 24 undef = .pointer (some ⟨g, 0, none⟩) := hf 0 _ (hd 0 rfl) rfl
        go_simp
        exact ⟨rfl, rfl⟩
      · intro a ls hcl hi hd hoff hf
        left
        refine ⟨rfl, ?_⟩
        have e0 : a.tmps.getD 32 undef = .pointer (some ⟨g, 0, none⟩) := hf 8 _ (hd 8 rfl) rfl
        go_simp
        exact ⟨rfl, rfl⟩
      · intro a ls hcl hi hd hoff hf
        left
        refine ⟨rfl, ?_⟩
        have e0 : a.tmps.getD 33 undef = .pointer (some ⟨g, 1, none⟩) := hf 9 _ (hd 9 rfl) rfl
        have e1 : a.tmps.getD 31 undef = .slice (some ⟨Q, 0, none⟩) (s.buf.length + 1) cap := hf 7 _ (hd 7 rfl) rfl
        have hw : putW V W6 W7 (W7.setCell ⟨g, 1, none⟩ (.slice (some ⟨Q, 0, none⟩) (s.buf.length + 1) cap)) (updB ls 10) = W7.setCell ⟨g, 1, none⟩ (.slice (some ⟨Q, 0, none⟩) (s.buf.length + 1) cap) := putW_10 rfl
        rw [hw, putW_7 hi (hd 7 rfl)]
        have k4 := K4.out
        have k5 := K5.out
        go_simp
    · intro a ls hl hoff hf
      rw [putW_10 (hl 10 (by decide))]
      obtain ⟨q', d1, d2, d3⟩ := HFIN.out
      have D1 := Lib.hid d1
      have D2 := Lib.hid d2
      have D3 := Lib.hid d3
      obtain ⟨ys, _, ha⟩ := off_form hoff (mask := [false, false, false, false, false, false, false, false, false, false, false, false, false, false, false, false, false, false, false, false, false, false, false, false, true, true, true, true, true, true, true, true, true, true, false, false]) (by kernel_rfl)
      clear hf hoff hl K1 K2 K3 K4 K5 HB1 HRG HFIN d1 d2 d3 HV
      generalize W7.setCell ⟨g, 1, none⟩ (.slice (some ⟨Q, 0, none⟩) (s.buf.length + 1) cap) = Y at *
      subst ha
      go_wp2_with fail
      refine (count_any Y g L q' _ D1.out).mono ?_
      rintro e w9 ⟨rfl, hd9, hc9⟩
      have H9 := Lib.hid hd9
      have HC9 := Lib.hid (D2.out.trans hc9 (After.foot D3.out))
      clear hd9 hc9
      go_wp2_with fail
      go_ret
      exact ⟨rfl, q', H9.out, HC9.out, D3.out⟩

/-- WRITE -/
theorem write_any (w : World) (g L : Nat) (q : Option Nat) (s : D) (h : Dk w g L q s) (i : Int) (A : Option Addr) (n c : Nat) (l : List UInt8) (hl : Hold w A n c l) (hn : n ≤ 281474976710656) (hb : (s.buf.length + 1) * 72 ≤ 140737488355328) :
    Calls Try.prog 50 #[.pointer (some ⟨g, 0, none⟩), .int .i64 i, .slice A n c] w fun e w' => e = .returned (.int .i64 (s.wErr i n)) ∧ After w w' g L q (s.wSt i l) := by
  have hll := hl.1
  by_cases hr : s.refuse i = 0
  · by_cases h64 : n ≤ 64
    · refine (write_done w g L q s h i A n c l hl hr h64 hb).mono ?_
      rintro e w' ⟨rfl, hA⟩
      exact ⟨by rw [wErr_zero hr h64], by rw [wSt_zero hr (by omega)]; exact hA⟩
    · have HR := Lib.hid (refusal_any w g L q s h i)
      have e1 := wErr_long (s := s) (n := n) hr (by omega)
      have hf : After w w g L q (s.wSt i l) := by rw [wSt_long hr (by omega)]; exact After.same h (Below.refl _ _)
      have HF := Lib.hid hf
      rw [hr] at HR
      clear hf h hl hll hr
      rw [e1]
      clear e1
      have h64' : (64 : Int) < (n : Int) := by omega
      go_enter Try.func50, Try.ntmps50
      go_wp2_with fail
      refine HR.out.mono ?_
      rintro e w1 ⟨rfl, rfl⟩
      go_wp2_with fail
      go_ret
      exact ⟨rfl, HF.out⟩
  · have HR := Lib.hid (refusal_any w g L q s h i)
    have hf : After w w g L q (s.wSt i l) := by rw [wSt_ref hr]; exact After.same h (Below.refl _ _)
    have HF := Lib.hid hf
    rw [wErr_ref hr]
    generalize s.refuse i = r at *
    clear hf h hl hll
    go_enter Try.func50, Try.ntmps50
    go_wp2_with fail
    refine HR.out.mono ?_
    rintro e w1 ⟨rfl, rfl⟩
    go_wp2_with fail
    go_ret
    exact ⟨rfl, HF.out⟩
end Go.Proofs.Ytbfhlleipeipbaa
