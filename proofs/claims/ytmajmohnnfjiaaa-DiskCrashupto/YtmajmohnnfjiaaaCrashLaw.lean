/-
  What is proved: the walk of the law DiskCrash: for every script and all numbers it returns true and turns nothing that was there. Conditions: the script's length, and the lengths of what it holds, are within the statement's bound.
-/
import Derived.Test.YtmajmohnnfjiaaaLasts
import Derived.Test.YtmajmohnnfjiaaaKeeps
namespace Go.Proofs.Ytmajmohnnfjiaaa
open Go.RowKit

/-- the law's own disk and its own four sectors -/
structure CI (w wr : World) (g kw : Nat) (s : D) (want : List (List UInt8)) : Prop where
  m : Mine w wr g s
  k : wr.heap[kw]? = some (.cells (secV want).toArray 46 (0, 0))
  b : w.heap.size ≤ kw
  l4 : want.length = 4
  e64 : ∀ x ∈ want, x.length = 64
section
variable {w wr w' : World} {g kw : Nat} {s s' : D} {want : List (List UInt8)}
theorem CI.below (h : CI w wr g kw s want) (hb : Below wr.heap.size wr w') : CI w w' g kw s want :=
  ⟨h.m.below hb, by rw [hb.block kw (Array.getElem?_eq_some_iff.1 h.k).1]; exact h.k, h.b, h.l4, h.e64⟩
theorem CI.next (h : CI w wr g kw s want) (hm : Mine w w' g s') (ho : Others wr w') : CI w w' g kw s' want :=
  ⟨hm, ho.2 kw _ 46 (0, 0) h.k (by decide) (by decide) (by decide), h.b, h.l4, h.e64⟩
theorem CI.range (h : CI w wr g kw s want) {p : Nat} (hp : p < want.length) : wr.rangeAt kw (p * 64) (bv want[p]) := by
  intro j v hv
  have hj : j < 64 := by
    have := (List.getElem?_eq_some_iff.1 hv).1
    rw [bv_length, h.e64 _ (List.getElem_mem hp)] at this
    exact this
  rw [cell_of_row wr kw _ _ 46 (0, 0) h.k]
  have e : (secV want)[p * 64 + j]? = some v := by
    unfold secV
    rw [flat_get 64 _ (sec_each h.e64) p j (by simpa using hp) hj]
    simpa using hv
  simpa using e
theorem CI.there (h : CI w wr g kw s want) {p : Nat} (hp : p < want.length) : wr.there kw (p * 64) 64 := by
  intro j hj
  have hl := secV_length h.e64
  have hle : (p + 1) * 64 ≤ want.length * 64 := Nat.mul_le_mul_right _ hp
  refine ⟨?_, by simp [World.frozen?, h.k]⟩
  rw [cell_of_row wr kw _ _ 46 (0, 0) h.k]
  have : p * 64 + j < (secV want).length := by omega
  simp [this]
theorem CI.put (h : CI w wr g kw s want) (o : Nat) (vs : List Value) (want' : List (List UInt8)) (ho : o + vs.length ≤ (secV want).length) (hw : splice (secV want) o vs = secV want') (hl : want'.length = 4) (he : ∀ x ∈ want', x.length = 64) :
    CI w (wr.setCells kw o vs) g kw s want' := by
  obtain ⟨C', h1, h2, _⟩ := heap_setCells_at kw 46 (0, 0) vs o wr _ h.k (by simpa using ho)
  refine ⟨?_, ?_, h.b, hl, he⟩
  · refine h.m.frame (S := fun x => x = kw) ?_ (fun x hx => by subst hx; exact h.b) (fun x hx => by subst hx; exact ⟨_, 46, (0, 0), h.k, by decide, by decide, by decide⟩)
    exact Chg.setCells (Chg.refl (fun x => x = kw) wr) (Or.inl rfl) _ _
  · rw [h1]
    congr 2
    rw [← hw, ← h2]
theorem CI.set (h : CI w wr g kw s want) {p : Nat} (hp : p < want.length) {x : List UInt8} (hx : x.length = 64) : CI w (wr.setCells kw (p * 64) (bv x)) g kw s (want.set p x) := by
  have hl := secV_length h.e64
  have hle : (p + 1) * 64 ≤ want.length * 64 := Nat.mul_le_mul_right _ hp
  exact h.put _ _ _ (by rw [bv_length, hx]; omega) (secV_set h.e64 hp x hx).symm (by simpa using h.l4) (mem_set_len h.e64 _ _ hx)
/-- bytes over noughts -/
theorem CI.over {p : Nat} (h : CI w wr g kw s (want.set p zer)) (hp : p < want.length) {l : List UInt8} (hl : l.length ≤ 64) : CI w (wr.setCells kw (p * 64) (bv l)) g kw s (want.set p (pad l)) := by
  have hlen := secV_length h.e64
  have hp' : p < (want.set p zer).length := by simpa using hp
  have hle : (p + 1) * 64 ≤ (want.set p zer).length * 64 := Nat.mul_le_mul_right _ hp'
  have e := secV_tear h.e64 hp' (pad l) (pad_length l hl) l.length hl
  have e1 : (pad l).take l.length = l := by simp [pad]
  have e2 : tear (pad l) ((want.set p zer)[p]?.getD []) l.length = pad l := by
    unfold tear
    rw [e1, List.getElem?_set_self hp]
    show l ++ List.drop l.length zer = pad l
    unfold pad zer
    rw [List.drop_replicate]
  rw [e1, e2, List.set_set] at e
  refine h.put _ _ _ (by rw [bv_length]; omega) e.symm (by simpa using h.l4) ?_
  intro x hx
  have h4 := h.e64
  rcases List.getElem_of_mem hx with ⟨i, hi, rfl⟩
  by_cases hip : i = p
  · subst hip
    simp [pad_length l hl]
  · rw [List.getElem_set_ne (by omega)]
    have := h4 (want[i]'(by simpa using hi)) (by
      rw [List.mem_iff_getElem]
      exact ⟨i, by simpa using hi, by rw [List.getElem_set_ne (by omega)]⟩)
    exact this
end

/-! ### what is wanted is what a crash would leave -/
theorem cl_all {s : D} {k t : Int} (h : ¬ clampN k s.buf.length < s.buf.length) : s.cLast k t = settle s.last s.buf := by
  unfold D.cLast
  have e : clampN k s.buf.length = s.buf.length := by unfold clampN at *; omega
  rw [e, List.getElem?_eq_none (Nat.le_refl _), List.take_length]
theorem cl_nil {s : D} {k t : Int} (h : s.buf = []) : s.cLast k t = s.last := by
  rw [cl_all (by rw [h]; simp), h]
  rfl
/-- a write more that is kept whole -/
theorem cl_keep (s : D) (k t n : Int) (p : Nat × List UInt8) (h : (s.buf.length : Int) < k) : (D.mk s.last (s.buf ++ [p]) n).cLast k t = (s.cLast k t).set p.1 p.2 := by
  rw [cl_all (s := s) (by unfold clampN; omega), cl_all (s := ⟨s.last, s.buf ++ [p], n⟩) (by simp only [List.length_append, List.length_singleton]; unfold clampN; omega)]
  exact settle_snoc _ _ _
/-- a write more that is torn -/
theorem cl_tear (s : D) (k t n : Int) (p : Nat × List UInt8) (h : k = (s.buf.length : Int) ∨ k < 0 ∧ s.buf.length = 0) : (D.mk s.last (s.buf ++ [p]) n).cLast k t = (s.cLast k t).set p.1 (tear p.2 ((s.cLast k t)[p.1]?.getD []) (clampN t 64)) := by
  rw [cl_all (s := s) (by unfold clampN; omega)]
  unfold D.cLast
  have e : clampN k (s.buf ++ [p]).length = s.buf.length := by simp only [List.length_append, List.length_singleton]; unfold clampN; omega
  simp only
  rw [e, List.getElem?_append_right (Nat.le_refl _), Nat.sub_self, List.take_left']
  · rfl
  · rfl
/-- a write more that is lost -/
theorem cl_lost (s : D) (k t n : Int) (p : Nat × List UInt8) (h1 : ¬ (s.buf.length : Int) < k) (h2 : ¬ k = (s.buf.length : Int)) (h3 : ¬ (k < 0 ∧ s.buf.length = 0)) : (D.mk s.last (s.buf ++ [p]) n).cLast k t = s.cLast k t := by
  have hlt : clampN k s.buf.length < s.buf.length := by unfold clampN; omega
  have e : clampN k (s.buf ++ [p]).length = clampN k s.buf.length := by simp only [List.length_append, List.length_singleton]; unfold clampN at *; omega
  unfold D.cLast
  simp only
  rw [e, List.getElem?_append_left hlt, List.take_append_of_le_length (by omega)]

theorem ci_new {w w2 w3 : World} {g : Nat} {Z : Array Value} (hm : Mine w w2 g (newSt 4)) (g1 : w3.heap[w2.heap.size]? = some (.cells Z 46 (0, 0))) (g2 : Below w2.heap.size w2 w3) (hZ : Z = (secV (List.replicate 4 zer)).toArray) : CI w w3 g w2.heap.size (newSt 4) (List.replicate 4 zer) :=
  ⟨hm.below g2, by rw [g1, hZ], hm.b.size, rfl, by intro x hx; rw [List.eq_of_mem_replicate hx]; rfl⟩
theorem Try.zero46 : ∃ Z : Array Value, (∀ w, (zeroValue 46).run Try.prog w = .ok (.agg Z) w) ∧ Z = (secV (List.replicate 4 zer)).toArray := ⟨_, zero_of_info (n := 256) (by kernel_rfl) |>.1, rfl⟩
theorem Try.zero45 : ∃ Z : Array Value, (∀ w, (zeroValue 45).run Try.prog w = .ok (.agg Z) w) ∧ Z = (bv zer).toArray := ⟨_, zero_of_info (n := 64) (by kernel_rfl) |>.1, rfl⟩
theorem Try.size45 : (Try.prog.info? 45).map (·.size) = some 64 := by kernel_rfl

theorem at_form (oi : Int) : ∃ p : Nat, p < 4 ∧ wrap64 ((IntKind.u64.wrap oi).tmod 4) = (p : Int) := by
  have h := wrap_u64 oi
  have h0 : 0 ≤ IntKind.u64.wrap oi := by omega
  have e : (IntKind.u64.wrap oi).tmod 4 = IntKind.u64.wrap oi % 4 := Int.tmod_eq_emod_of_nonneg h0
  rw [e, ← IntWalk.i64_left, IntKind.wrap_i64]
  exact ⟨(IntKind.u64.wrap oi % 4).toNat, by omega, by omega⟩
theorem op_cells {w X : World} {b o : Nat} {op : OpR} (h : w.rangeAt b o op.vals) (hb : Below w.heap.size w X) : X.cell? ⟨b, o + 1, none⟩ = some (.int .i64 op.i) ∧ X.cell? ⟨b, o + 3, none⟩ = some op.d.val :=
  ⟨range_later h hb 1 _ rfl, range_later h hb 3 _ rfl⟩
/-- the disk behind so many steps -/
structure CS (s : D) (keep torn fl : Int) (k : Nat) (done : Nat) (want : List (List UInt8)) : Prop where
  len : s.last.length = 4
  left : s.left = -1
  dn : s.buf.length = done
  le : done ≤ k
  no : (k : Int) ≤ fl → done = 0
  wn : want = s.cLast keep torn
theorem CS.new (keep torn fl : Int) : CS (newSt 4) keep torn fl 0 0 (List.replicate 4 zer) := by
  refine ⟨by simp [newSt], rfl, by simp [newSt], by omega, fun _ => rfl, ?_⟩
  rw [cl_nil (by simp [newSt])]
  rfl
theorem CS.refuse {s : D} {keep torn fl : Int} {k done : Nat} {want : List (List UInt8)} (h : CS s keep torn fl k done want) {p : Nat} (hp : p < 4) : s.refuse (p : Int) = 0 := by
  unfold D.refuse
  rw [if_neg (by rw [h.left]; omega), if_neg (by rw [h.len]; omega)]

theorem CS.skip {s : D} {keep torn fl : Int} {k done : Nat} {want : List (List UInt8)} (h : CS s keep torn fl k done want) : CS s keep torn fl (k + 1) done want :=
  ⟨h.len, h.left, h.dn, by have := h.le; omega, fun hk => h.no (by omega), h.wn⟩
/-- a write that is flushed at once -/
theorem CS.flushed {s : D} {keep torn fl : Int} {k done : Nat} {want : List (List UInt8)} (h : CS s keep torn fl k done want) (hk : (k : Int) < fl) {p : Nat} (hp : p < 4) {l : List UInt8} (hl : l.length ≤ 64) :
    s.wErr p l.length = 0 ∧ (s.wSt p l).fErr = 0 ∧ CS (s.wSt p l).fSt keep torn fl (k + 1) done (want.set p (pad l)) ∧ done = 0 := by
  have hr := h.refuse hp
  have hd0 := h.no (by omega)
  have hb : s.buf = [] := List.eq_nil_of_length_eq_zero (by rw [h.dn]; exact hd0)
  have hl' : tick s.left = -1 := by rw [h.left]; decide
  refine ⟨wErr_zero hr hl, ?_⟩
  rw [wSt_zero hr hl, Int.toNat_natCast]
  have hne : ¬ tick s.left = 0 := by rw [hl']; omega
  refine ⟨by unfold D.fErr; rw [if_neg hne], ?_, hd0⟩
  unfold D.fSt
  rw [if_neg hne]
  refine ⟨by simp only [settle_length]; exact h.len, by simp only; rw [hl']; decide, by simp [hd0], by omega, fun _ => hd0, ?_⟩
  rw [cl_nil rfl, h.wn, cl_nil hb, hb]
  rfl
/-- a write that waits: whole, torn or lost -/
theorem CS.waits {s : D} {keep torn fl : Int} {k done : Nat} {want : List (List UInt8)} (h : CS s keep torn fl k done want) (hk : ¬ (k : Int) < fl) {p : Nat} (hp : p < 4) {l : List UInt8} (hl : l.length ≤ 64) :
    s.wErr p l.length = 0 ∧ ((done : Int) < keep → CS (s.wSt p l) keep torn fl (k + 1) (done + 1) (want.set p (pad l))) ∧
    (keep = (done : Int) ∨ keep < 0 ∧ done = 0 → CS (s.wSt p l) keep torn fl (k + 1) (done + 1) (want.set p (tear (pad l) (want[p]?.getD []) (clampN torn 64)))) ∧
    (¬ (done : Int) < keep → ¬ keep = (done : Int) → ¬ (keep < 0 ∧ done = 0) → CS (s.wSt p l) keep torn fl (k + 1) (done + 1) want) := by
  have hr := h.refuse hp
  have hl' : tick s.left = -1 := by rw [h.left]; decide
  have hdn := h.dn
  refine ⟨wErr_zero hr hl, ?_⟩
  rw [wSt_zero hr hl, Int.toNat_natCast]
  have base : ∀ want', want' = (D.mk s.last (s.buf ++ [(p, pad l)]) (tick s.left)).cLast keep torn → CS ⟨s.last, s.buf ++ [(p, pad l)], tick s.left⟩ keep torn fl (k + 1) (done + 1) want' := fun want' hw =>
    ⟨h.len, hl', by simp [hdn], by have := h.le; omega, fun hk' => by omega, hw⟩
  refine ⟨fun h1 => base _ ?_, fun h1 => base _ ?_, fun h1 h2 h3 => base _ ?_⟩
  · rw [cl_keep s keep torn _ _ (by omega), h.wn]
  · rw [cl_tear s keep torn _ _ (by omega), h.wn]
  · rw [cl_lost s keep torn _ _ (by omega) (by omega) (by omega), h.wn]

/-- the sectors, what was there and what may be torn over it -/
structure TB (w wr : World) (g kw ko kx : Nat) (s : D) (want : List (List UInt8)) (old xp : List UInt8) : Prop where
  ci : CI w wr g kw s want
  o : wr.heap[ko]? = some (.cells (bv old).toArray 45 (0, 0))
  x : wr.heap[kx]? = some (.cells (bv xp).toArray 45 (0, 0))
  ne : ko ≠ kx
  bo : w.heap.size ≤ ko
theorem tear_step (xp x0 : List UInt8) (j : Nat) (hj : j < 64) (h1 : xp.length = 64) (h2 : x0.length = 64) : (tear xp x0 j).set j (xp[j]'(by omega)) = tear xp x0 (j + 1) := by
  unfold tear
  apply List.ext_getElem?
  intro i
  rw [List.getElem?_set]
  by_cases hij : j = i
  · subst hij
    rw [if_pos rfl, if_pos (by simp; omega), List.getElem?_append_left (by simp; omega), List.getElem?_take, if_pos (by omega), List.getElem?_eq_getElem (by omega)]
  · rw [if_neg hij]
    by_cases hi : i < j
    · rw [List.getElem?_append_left (by simp; omega), List.getElem?_append_left (by simp; omega), List.getElem?_take, List.getElem?_take, if_pos hi, if_pos (by omega)]
    · rw [List.getElem?_append_right (by simp; omega), List.getElem?_append_right (by simp; omega), List.length_take, List.length_take, List.getElem?_drop, List.getElem?_drop]
      congr 1
      omega
theorem tear_len (xp x0 : List UInt8) (j : Nat) (hj : j ≤ 64) (h1 : xp.length = 64) (h2 : x0.length = 64) : (tear xp x0 j).length = 64 := by
  simp [tear, h1, h2]; omega
section
variable {w wr : World} {g kw ko kx : Nat} {s : D} {want : List (List UInt8)} {xp x0 : List UInt8} {j : Nat}
theorem TB.step (h : TB w wr g kw ko kx s want (tear xp x0 j) xp) (hj : j < 64) (h1 : xp.length = 64) (h2 : x0.length = 64) : ∃ b : UInt8, wr.cell? ⟨kx, j, none⟩ = some (.int .u8 (b.toNat : Int)) ∧ (∃ v, wr.cell? ⟨ko, j, none⟩ = some v) ∧ wr.frozen? ⟨ko, j, none⟩ = false ∧
    TB w (wr.setCell ⟨ko, j, none⟩ (.int .u8 (b.toNat : Int))) g kw ko kx s want (tear xp x0 (j + 1)) xp := by
  have hko : kw ≠ ko := tag_ne h.ci.k h.o (by decide)
  have hl := tear_len xp x0 j (by omega) h1 h2
  refine ⟨xp[j]'(by omega), ?_, ?_, by simp [World.frozen?, h.o], ?_⟩
  · rw [cell_of_row wr kx j _ 45 (0, 0) h.x]
    have := (bv_get xp j (.int .u8 ((xp[j]'(by omega)).toNat : Int))).2 ⟨by omega, rfl⟩
    simpa using this
  · rw [cell_of_row wr ko j _ 45 (0, 0) h.o]
    exact ⟨_, by rw [Array.getElem?_eq_getElem (by simp [bv_length, hl]; omega)]⟩
  · refine ⟨⟨?_, by rw [Below.heap_setCell _ _ _ _ hko]; exact h.ci.k, h.ci.b, h.ci.l4, h.ci.e64⟩, ?_, by rw [Below.heap_setCell _ _ _ _ h.ne.symm]; exact h.x, h.ne, h.bo⟩
    · have hc : Chg (fun x => x = ko) wr (wr.setCell ⟨ko, j, none⟩ (.int .u8 ((xp[j]'(by omega)).toNat : Int))) := Chg.setCell (Chg.refl (fun x => x = ko) wr) (p := ⟨ko, j, none⟩) (Or.inl rfl) _
      exact h.ci.m.frame hc (fun x hx => by subst hx; exact h.bo) (fun x hx => by subst hx; exact ⟨_, 45, (0, 0), h.o, by decide, by decide, by decide⟩)
    · rw [heap_setCell_at h.o j _]
      congr 2
      rw [← tear_step xp x0 j hj h1 h2, ← bv_set]
      simp
end
/-- what the operations of a comparison of two sectors yield -/
def crF (kb kw j : Nat) (x : List UInt8) : Nat → Value → Prop
  | 0, v => v = .int .i64 0
  | 3, v => v = .slice (some ⟨kb, 0, none⟩) 64 64
  | 4, v | 8, v => v = .string ⟨x.toArray⟩
  | 5, v => v = .int .i64 (j : Int)
  | 6, v => v = .pointer (some ⟨kw, j * 64, none⟩)
  | 7, v => v = .slice (some ⟨kw, j * 64, none⟩) 64 64
  | _, v => v = .bool false

set_option maxRecDepth 100000 in
set_option maxHeartbeats 2000000 in
theorem diskCrash_walk (B : Option Addr) (N C : Nat) (os : List OpR) (fl keep torn : Int) (w : World) (ho : Ops w B N os) (hN : N ≤ 1048576) (hk1 : -9223372036854775808 ≤ keep) (hk2 : keep ≤ 9223372036854775807) (ht1 : -9223372036854775808 ≤ torn) (ht2 : torn ≤ 9223372036854775807) :
    Calls Try.prog 4 #[.slice B N C, .int .i64 fl, .int .i64 keep, .int .i64 torn] w fun e w' => e = .returned (.bool true) ∧ Below w.heap.size w w' := by
  have HO := Lib.hid ho
  clear ho
  obtain ⟨Z, hZ, hZs⟩ := Try.zero46
  have HZS := Lib.hid hZs
  clear hZs
  go_enter Try.func4, Try.ntmps4
  go_wp2_with fail
  refine (new_mine w w 4 (Below.refl _ _)).mono ?_
  rintro e w1 ⟨g, rfl, h1, _, _⟩
  have H1 : Hid (Mine w w1 g (newSt 4)) := h1
  clear h1
  go_wp2_with fail
  refine (awake_any w1).mono ?_
  rintro e w2 ⟨rfl, hb2⟩
  have H2 := Lib.hid (H1.out.below hb2)
  clear H1 hb2
  go_wp2_with ((with_reducible refine wpList_alloc_new rfl 46 rfl Z hZ ?_); intro w3 hW; obtain ⟨g1, g2⟩ := new_filled hW.out; have H3 := Lib.hid (ci_new H2.out g1 g2 HZS.out); clear g1 g2 hW hZ)
  go_loopw [11, 12] (fun d i wr => ∃ (k done : Nat) (s : D) (want : List (List UInt8)), k ≤ N ∧ i = .int .i64 (k : Int) ∧ d = .int .i64 (done : Int) ∧ CS s keep torn fl k done want ∧ CI w wr g w2.heap.size s want) (fun _ i _ => N - (intOf i).toNat)
  case atStart => exact ⟨0, 0, newSt 4, _, by omega, rfl, rfl, CS.new _ _ _, H3.out⟩
  case round =>
    obtain ⟨k, done, s, want, hk, rfl, rfl, hS, hM⟩ := hrel
    have HS := Lib.hid hS
    have HM := Lib.hid hM
    have hbl : s.buf.length ≤ 1048576 := by have := hS.le; have := hS.dn; omega
    have hdk : done ≤ k := hS.le
    clear hS hM H3
    by_cases hlt : k < N
    · obtain ⟨b, off, o, rfl, hrg, hok⟩ := HO.out.at (Below.refl _ _) hlt
      obtain ⟨kd, oi, nn, A2, n2, c2, l2⟩ := o
      have HK := Lib.hid hok
      have HRG := Lib.hid hrg
      obtain ⟨cI, cD⟩ := op_cells hrg HM.out.m.b
      have hi1 := hok.i1
      have hi2 := hok.i2
      have hsz := hok.size
      have hl2 := hok.hold.1
      simp only [Part.val] at hi1 hi2 hsz hl2 cI cD
      have HL2 := Lib.hid hl2
      have hk0 : (0 : Int) ≤ (k : Int) := Int.natCast_nonneg _
      have hk1 : (k : Int) < (N : Int) := by omega
      clear hrg hok hl2
      by_cases h64 : (64 : Int) < (n2 : Int)
      · go_wp2_with fail
        go_roundw
        case rel => exact ⟨k + 1, done, s, want, by omega, by go_num, rfl, HS.out.skip, HM.out⟩
        case measure => simp [intOf]; omega
      have hn2 : n2 ≤ 64 := by omega
      obtain ⟨p, hp4, hat⟩ := at_form oi
      have hp0 : (0 : Int) ≤ (p : Int) := Int.natCast_nonneg _
      have hp4' : (p : Int) < 4 := by omega
      have hpw : p < want.length := by rw [HM.out.l4]; exact hp4
      have HRW := Lib.hid (HM.out.range hpw)
      obtain ⟨Z5, hZ5, hZ5s⟩ := Try.zero45
      subst hZ5s
      have hxl := HM.out.e64 _ (List.getElem_mem hpw)
      have hwg : want[p]?.getD [] = want[p] := by rw [List.getElem?_eq_getElem hpw]; rfl
      have HWG := Lib.hid hwg
      clear hwg
      generalize want[p] = x0 at *
      have hi45 : (Try.prog.info? 45).map (·.size) = some (bv x0).length := by rw [Try.size45, bv_length, hxl]
      have HI45 := Lib.hid hi45
      have hi45' : (Try.prog.info? 45).map (·.size) = some (bv x0).toArray.size := by simpa using hi45
      have HI45' := Lib.hid hi45'
      have hiz : (Try.prog.info? 45).map (·.size) = some (bv zer).toArray.size := Try.size45
      have HIZ := Lib.hid hiz
      have hzx : (bv zer).toArray.size = (bv x0).toArray.size := by simp [bv_length, hxl, zer]
      have HZX := Lib.hid hzx
      have H1x := Lib.hid (all_oneCell_toArray (bv_one x0))
      have H1z := Lib.hid (all_oneCell_toArray (bv_one zer))
      have HXL := Lib.hid hxl
      clear hi45 hi45' hzx hxl hiz
      by_cases hfl : (k : Int) < fl
      · go_wp2_with (first
          | (with_reducible refine wpList_load_mid rfl 45 (.tmp 49) rfl w2.heap.size (p * 64) rfl (bv x0) _ HRW.out Try.underlying45 rfl HI45.out ?_)
          | ((with_reducible refine wpList_alloc_new rfl 45 rfl (bv zer).toArray hZ5 ?_); intro W hW; obtain ⟨g1, g2⟩ := new_filled hW.out; have G1 := Lib.hid g1; have G2 := Lib.hid g2; clear g1 g2 hW)
          | ((with_reducible refine wpList_store_row rfl 45 (.tmp 14) (.tmp 50) rfl wr.heap.size (bv x0).toArray rfl rfl 45 (bv zer).toArray G1.out HI45'.out HZX.out H1x.out ?_); have G3 := Lib.hid (fill_facts (cs' := (bv x0).toArray) G2.out G1.out); have HMU := Lib.hid (HM.out.below G3.out.2); clear G1 G2; generalize W.setRow wr.heap.size (bv x0).toArray = U at *; have HTU : Hid (U.there w2.heap.size (p * 64) (bv zer).toArray.size) := HMU.out.there hpw)
          | ((with_reducible refine wpList_store_mid rfl 45 (.tmp 61) (.tmp 60) rfl w2.heap.size (p * 64) (bv zer).toArray rfl rfl HTU.out HIZ.out H1z.out ?_); rw [List.toList_toArray]; have HMV := Lib.hid (HMU.out.set hpw (x := zer) rfl); clear HTU; generalize U.setCells w2.heap.size (p * 64) (bv zer) = V at *))
        obtain ⟨X, hX⟩ : ∃ X, X = V.drew := ⟨_, rfl⟩
        have hMX : CI w X g w2.heap.size s (want.set p zer) := by rw [hX]; exact HMV.out.below ((Below.refl _ _).drew)
        have HMX := Lib.hid hMX
        refine wp_region_tail 8 X hX (by kernel_rfl) (by kernel_rfl) ?_
        obtain ⟨cIX, cDX⟩ := op_cells HRG.out hMX.m.b
        have HLX := Lib.hid (HK.out.hold.below hMX.m.b)
        have hTH := hMX.there (p := p) (by simpa using hpw)
        have HTH := Lib.hid hTH
        simp only [Part.val] at cIX cDX HLX
        clear hX hMX hTH HMV
        simp only [List.take_succ_cons, List.take_zero, List.drop_succ_cons, List.drop_zero]
        iterate 8 still_step
        refine wpStill_nil ?_
        have hcn : (bv l2).length = Nat.min n2 64 := by rw [bv_length, HL2.out]; exact (Nat.min_eq_left hn2).symm
        have hct : X.there w2.heap.size (p * 64) (bv l2).length := fun j hj => HTH.out j (by rw [bv_length, HL2.out] at hj; omega)
        have hcp : 0 < (bv l2).length → (some ⟨w2.heap.size, p * 64, none⟩ : Option Addr) = some ⟨w2.heap.size, p * 64, none⟩ ∧ ∃ ad, A2 = some ad ∧ ∀ j v, (bv l2)[j]? = some v → X.cell? (ad.add j) = some v := fun h0 => by
          obtain ⟨b0, o0, e, _⟩ := HLX.out.2.2.2 (by rw [bv_length, HL2.out] at h0; exact h0)
          exact ⟨rfl, _, e, HLX.out.cells _ e⟩
        refine wpList_copy_cells rfl (.tmp 64) (.tmp 69) 28 28 rfl 5 Try.underlying28 (by kernel_rfl) _ _ _ _ _ _ rfl rfl w2.heap.size (p * 64) (bv l2) hcn hcp hct (bv_one _) ?_
        have HMY := Lib.hid (HMX.out.over (l := l2) hpw (by rw [HL2.out]; exact hn2))
        clear hcn hct hcp HTH HLX HMX
        generalize X.setCells w2.heap.size (p * 64) (bv l2) = Y at *
        obtain ⟨cIY, cDY⟩ := op_cells HRG.out HMY.out.m.b
        have HLY := Lib.hid (HK.out.hold.below HMY.out.m.b)
        simp only [Part.val] at cIY cDY HLY
        have hst := HS.out.flushed hfl hp4 (l := l2) (by rw [HL2.out]; exact hn2)
        rw [HL2.out] at hst
        have HST := Lib.hid hst
        have hwe := hst.1
        have hfe := hst.2.1
        clear hst cI cD cIX cDX
        go_wp2_with fail
        refine (write_mine HMY.out.m p A2 n2 c2 l2 HLY.out (by omega) (by omega)).mono ?_
        rintro e w5 ⟨rfl, h5, ho5⟩
        rw [hwe]
        have H5 := Lib.hid (HMY.out.next h5 ho5)
        have hbl5 := wSt_len s p l2
        clear h5 ho5 HMY
        go_wp2_with fail
        refine (flush_mine H5.out.m (by omega)).mono ?_
        rintro e w6 ⟨rfl, h6, ho6⟩
        rw [hfe]
        have H6 := Lib.hid (H5.out.next h6 ho6)
        clear h6 ho6 H5
        go_wp2_with fail
        go_roundw
        case rel => exact ⟨k + 1, done, _, _, by omega, by go_num, rfl, HST.out.2.2.1, H6.out⟩
        case measure => simp [intOf]; omega
      by_cases hkp : (done : Int) < keep
      · have hst := HS.out.waits hfl hp4 (l := l2) (by rw [HL2.out]; exact hn2)
        rw [HL2.out] at hst
        have HST := Lib.hid hst
        clear hst
        go_wp2_with (first
          | (with_reducible refine wpList_load_mid rfl 45 (.tmp 49) rfl w2.heap.size (p * 64) rfl (bv x0) _ HRW.out Try.underlying45 rfl HI45.out ?_)
          | ((with_reducible refine wpList_alloc_new rfl 45 rfl (bv zer).toArray hZ5 ?_); intro W hW; obtain ⟨g1, g2⟩ := new_filled hW.out; have G1 := Lib.hid g1; have G2 := Lib.hid g2; clear g1 g2 hW)
          | ((with_reducible refine wpList_store_row rfl 45 (.tmp 14) (.tmp 50) rfl wr.heap.size (bv x0).toArray rfl rfl 45 (bv zer).toArray G1.out HI45'.out HZX.out H1x.out ?_); have G3 := Lib.hid (fill_facts (cs' := (bv x0).toArray) G2.out G1.out); have HMU := Lib.hid (HM.out.below G3.out.2); clear G1 G2; generalize W.setRow wr.heap.size (bv x0).toArray = U at *; have HTU : Hid (U.there w2.heap.size (p * 64) (bv zer).toArray.size) := HMU.out.there hpw)
          | ((with_reducible refine wpList_store_mid rfl 45 (.tmp 61) (.tmp 60) rfl w2.heap.size (p * 64) (bv zer).toArray rfl rfl HTU.out HIZ.out H1z.out ?_); rw [List.toList_toArray]; have HMV := Lib.hid (HMU.out.set hpw (x := zer) rfl); clear HTU; generalize U.setCells w2.heap.size (p * 64) (bv zer) = V at *))
        obtain ⟨X, hX⟩ : ∃ X, X = V.drew := ⟨_, rfl⟩
        have hMX : CI w X g w2.heap.size s (want.set p zer) := by rw [hX]; exact HMV.out.below ((Below.refl _ _).drew)
        have HMX := Lib.hid hMX
        refine wp_region_tail 8 X hX (by kernel_rfl) (by kernel_rfl) ?_
        obtain ⟨cIX, cDX⟩ := op_cells HRG.out hMX.m.b
        have HLX := Lib.hid (HK.out.hold.below hMX.m.b)
        have hTH := hMX.there (p := p) (by simpa using hpw)
        have HTH := Lib.hid hTH
        simp only [Part.val] at cIX cDX HLX
        clear hX hMX hTH HMV
        simp only [List.take_succ_cons, List.take_zero, List.drop_succ_cons, List.drop_zero]
        iterate 8 still_step
        refine wpStill_nil ?_
        have hcn : (bv l2).length = Nat.min n2 64 := by rw [bv_length, HL2.out]; exact (Nat.min_eq_left hn2).symm
        have hct : X.there w2.heap.size (p * 64) (bv l2).length := fun j hj => HTH.out j (by rw [bv_length, HL2.out] at hj; omega)
        have hcp : 0 < (bv l2).length → (some ⟨w2.heap.size, p * 64, none⟩ : Option Addr) = some ⟨w2.heap.size, p * 64, none⟩ ∧ ∃ ad, A2 = some ad ∧ ∀ j v, (bv l2)[j]? = some v → X.cell? (ad.add j) = some v := fun h0 => by
          obtain ⟨b0, o0, e, _⟩ := HLX.out.2.2.2 (by rw [bv_length, HL2.out] at h0; exact h0)
          exact ⟨rfl, _, e, HLX.out.cells _ e⟩
        refine wpList_copy_cells rfl (.tmp 64) (.tmp 69) 28 28 rfl 5 Try.underlying28 (by kernel_rfl) _ _ _ _ _ _ rfl rfl w2.heap.size (p * 64) (bv l2) hcn hcp hct (bv_one _) ?_
        have HMY := Lib.hid (HMX.out.over (l := l2) hpw (by rw [HL2.out]; exact hn2))
        clear hcn hct hcp HTH HLX HMX
        generalize X.setCells w2.heap.size (p * 64) (bv l2) = Y at *
        obtain ⟨cIY, cDY⟩ := op_cells HRG.out HMY.out.m.b
        have HLY := Lib.hid (HK.out.hold.below HMY.out.m.b)
        simp only [Part.val] at cIY cDY HLY
        have hwe := HST.out.1
        clear cI cD
        go_wp2_with fail
        refine (write_mine HMY.out.m p A2 n2 c2 l2 HLY.out (by omega) (by omega)).mono ?_
        rintro e w5 ⟨rfl, h5, ho5⟩
        rw [hwe]
        have H5 := Lib.hid (HMY.out.next h5 ho5)
        clear h5 ho5 HMY
        go_wp2_with fail
        go_roundw
        case rel => exact ⟨k + 1, done + 1, _, _, by omega, by go_num, by go_num, HST.out.2.1 hkp, H5.out⟩
        case measure => simp [intOf]; omega
      have hst := HS.out.waits hfl hp4 (l := l2) (by rw [HL2.out]; exact hn2)
      rw [HL2.out] at hst
      have HST := Lib.hid hst
      clear hst
      have hnk : ¬ keep > (done : Int) := by omega
      by_cases hke : keep = (done : Int)
      · have HOR : Hid (keep = (done : Int) ∨ keep < 0 ∧ done = 0) := Or.inl hke
        have hd1 : decide ((done : Int) = keep) = true := by simp [hke]
        have hd2 : ((done : Int) == keep) = true := by simp [hke]
        clear hke
        have hwe := HST.out.1
        go_wp2_with (first
          | (with_reducible refine wpList_load_mid rfl 45 (.tmp 49) rfl w2.heap.size (p * 64) rfl (bv x0) _ HRW.out Try.underlying45 rfl HI45.out ?_)
          | ((with_reducible refine wpList_alloc_new rfl 45 rfl (bv zer).toArray hZ5 ?_); intro W hW; obtain ⟨g1, g2⟩ := new_filled hW.out; have G1 := Lib.hid g1; have G2 := Lib.hid g2; clear g1 g2 hW)
          | ((with_reducible refine wpList_store_row rfl 45 (.tmp 14) (.tmp 50) rfl wr.heap.size (bv x0).toArray rfl rfl 45 (bv zer).toArray G1.out HI45'.out HZX.out H1x.out ?_); have G3 := Lib.hid (fill_facts (cs' := (bv x0).toArray) G2.out G1.out); have HMU := Lib.hid (HM.out.below G3.out.2); clear G1 G2; generalize W.setRow wr.heap.size (bv x0).toArray = U at *))
        have hko := (Array.getElem?_eq_some_iff.1 G3.out.1).1
        have hwrs : w.heap.size ≤ wr.heap.size := HM.out.m.b.size
        obtain ⟨X, hX⟩ : ∃ X, X = W.drew := ⟨_, rfl⟩
        have hBX : Below U.heap.size U X := by rw [hX]; exact G2.out.drew
        have hxX : X.heap[U.heap.size]? = some (.cells (bv zer).toArray 45 (0, 0)) := by rw [hX]; exact G1.out
        have hMX := HMU.out.below hBX
        obtain ⟨cIX, cDX⟩ := op_cells HRG.out hMX.m.b
        have HLX := Lib.hid (HK.out.hold.below hMX.m.b)
        simp only [Part.val] at cIX cDX HLX
        refine wp_region_tail 6 X hX (by kernel_rfl) (by kernel_rfl) ?_
        obtain ⟨y1, y2, y3⟩ := fill_more hBX hxX 0 (bv l2) (by rw [bv_length, HL2.out]; show 0 + n2 ≤ 64; omega)
        rw [splice_zer] at y1
        have hoY := (y2.block wr.heap.size hko).trans G3.out.1
        have HTB : Hid (TB w (X.setCells U.heap.size 0 (bv l2)) g w2.heap.size wr.heap.size U.heap.size s want (tear (pad l2) x0 0) (pad l2)) := Lib.hid (TB.mk (HMU.out.below y2) hoY y1 (by omega) (by omega))
        have Y3 := Lib.hid y3
        clear hX hBX hxX hMX y1 y2 y3 hoY G1 G2 cI cD
        simp only [List.take_succ_cons, List.take_zero, List.drop_succ_cons, List.drop_zero]
        iterate 6 still_step
        refine wpStill_nil ?_
        have hcn : (bv l2).length = Nat.min n2 64 := by rw [bv_length, HL2.out]; exact (Nat.min_eq_left hn2).symm
        have hcp : 0 < (bv l2).length → (some ⟨U.heap.size, 0, none⟩ : Option Addr) = some ⟨U.heap.size, 0, none⟩ ∧ ∃ ad, A2 = some ad ∧ ∀ j v, (bv l2)[j]? = some v → X.cell? (ad.add j) = some v := fun h0 => by
          obtain ⟨b0, o0, e, _⟩ := HLX.out.2.2.2 (by rw [bv_length, HL2.out] at h0; exact h0)
          exact ⟨rfl, _, e, HLX.out.cells _ e⟩
        refine wpList_copy_cells rfl (.tmp 82) (.tmp 87) 28 28 rfl 5 Try.underlying28 (by kernel_rfl) _ _ _ _ _ _ rfl rfl U.heap.size 0 (bv l2) hcn hcp Y3.out (bv_one _) ?_
        clear hcn hcp HLX Y3
        generalize X.setCells U.heap.size 0 (bv l2) = Y at *
        have hpl : (pad l2).length = 64 := pad_length l2 (by rw [HL2.out]; exact hn2)
        have HPL := Lib.hid hpl
        clear hpl cIX cDX HMU G3
        go_wp2_with fail
        obtain ⟨ko, hkoe⟩ : ∃ ko, ko = wr.heap.size := ⟨_, rfl⟩
        obtain ⟨kx, hkxe⟩ : ∃ kx, kx = U.heap.size := ⟨_, rfl⟩
        rw [← hkoe, ← hkxe] at HTB
        rw [← hkoe, ← hkxe]
        clear hkoe hkxe hko
        go_loopw [16] (fun i wq => ∃ j : Nat, j ≤ clampN torn 64 ∧ i = .int .i64 (j : Int) ∧ TB w wq g w2.heap.size ko kx s want (tear (pad l2) x0 j) (pad l2)) (fun i _ => 64 - (intOf i).toNat)
        case atStart => exact ⟨0, by omega, rfl, HTB.out⟩
        case round =>
          obtain ⟨j, hj, rfl, hT⟩ := hrel
          have HT := Lib.hid hT
          clear hT HTB
          have hj0 : (0 : Int) ≤ (j : Int) := Int.natCast_nonneg _
          by_cases hc : j < clampN torn 64
          · have hj64 : (j : Int) < 64 := by unfold clampN at hc; omega
            have hjt : (j : Int) < torn := by unfold clampN at hc; omega
            obtain ⟨b8, cx, ⟨v, co⟩, fo, hTB⟩ := HT.out.step (by omega) HPL.out HXL.out
            have HTB' := Lib.hid hTB
            clear hTB
            go_wp2_with fail
            go_roundw
            case rel => exact ⟨j + 1, by omega, by go_num, HTB'.out⟩
            case measure => simp [intOf]; omega
          · have hje : j = clampN torn 64 := by omega
            have hj64 : j ≤ 64 := by unfold clampN at hje; omega
            have htl := tear_len (pad l2) x0 j hj64 HPL.out HXL.out
            have htr := HST.out.2.2.1 HOR.out
            rw [HWG.out, ← hje] at htr
            have HTR := Lib.hid htr
            have hci := HT.out.ci.set hpw htl
            have HCI := Lib.hid hci
            have HRO := Lib.hid (range_block HT.out.o)
            have HTH := Lib.hid (HT.out.ci.there hpw)
            clear htr hci
            generalize tear (pad l2) x0 j = y at *
            have hiy : (Try.prog.info? 45).map (·.size) = some (bv y).length := by rw [Try.size45, bv_length, htl]
            have HIY := Lib.hid hiy
            have hiy' : (Try.prog.info? 45).map (·.size) = some (bv y).toArray.size := by simpa using hiy
            have HIY' := Lib.hid hiy'
            have hth : wr.there w2.heap.size (p * 64) (bv y).toArray.size := by
              have e : (bv y).toArray.size = 64 := by simp [bv_length, htl]
              rw [e]
              exact HTH.out
            have HTH' := Lib.hid hth
            have H1y := Lib.hid (all_oneCell_toArray (bv_one y))
            clear hiy hiy' hth htl HTH HT hje
            have hex : ¬ ((j : Int) < 64 ∧ (j : Int) < torn) := by unfold clampN at hc; omega
            by_cases hjx : (j : Int) < 64
            · have hjt : ¬ (j : Int) < torn := fun h => hex ⟨hjx, h⟩
              clear hex
              go_wp2_with (first
                | (with_reducible refine wpList_load_mid rfl 45 (.tmp 14) rfl ko 0 rfl (bv y) _ HRO.out Try.underlying45 rfl HIY.out ?_)
                | ((with_reducible refine wpList_store_mid rfl 45 (.tmp 105) (.tmp 104) rfl w2.heap.size (p * 64) (bv y).toArray rfl rfl HTH'.out HIY'.out H1y.out ?_); rw [List.toList_toArray]; generalize wr.setCells w2.heap.size (p * 64) (bv y) = V at *; obtain ⟨cIV, cDV⟩ := op_cells HRG.out HCI.out.m.b; have HLV := Lib.hid (HK.out.hold.below HCI.out.m.b); simp only [Part.val] at cIV cDV HLV))
              refine (write_mine HCI.out.m p A2 n2 c2 l2 HLV.out (by omega) (by omega)).mono ?_
              rintro e w5 ⟨rfl, h5, ho5⟩
              rw [hwe]
              have H5 := Lib.hid (HCI.out.next h5 ho5)
              clear h5 ho5 HCI
              go_wp2_with fail
              go_roundw
              case rel => exact ⟨k + 1, done + 1, _, _, by omega, by go_num, by go_num, HTR.out, H5.out⟩
              case measure => simp [intOf]; omega
            · clear hex
              go_wp2_with (first
                | (with_reducible refine wpList_load_mid rfl 45 (.tmp 14) rfl ko 0 rfl (bv y) _ HRO.out Try.underlying45 rfl HIY.out ?_)
                | ((with_reducible refine wpList_store_mid rfl 45 (.tmp 105) (.tmp 104) rfl w2.heap.size (p * 64) (bv y).toArray rfl rfl HTH'.out HIY'.out H1y.out ?_); rw [List.toList_toArray]; generalize wr.setCells w2.heap.size (p * 64) (bv y) = V at *; obtain ⟨cIV, cDV⟩ := op_cells HRG.out HCI.out.m.b; have HLV := Lib.hid (HK.out.hold.below HCI.out.m.b); simp only [Part.val] at cIV cDV HLV))
              refine (write_mine HCI.out.m p A2 n2 c2 l2 HLV.out (by omega) (by omega)).mono ?_
              rintro e w5 ⟨rfl, h5, ho5⟩
              rw [hwe]
              have H5 := Lib.hid (HCI.out.next h5 ho5)
              clear h5 ho5 HCI
              go_wp2_with fail
              go_roundw
              case rel => exact ⟨k + 1, done + 1, _, _, by omega, by go_num, by go_num, HTR.out, H5.out⟩
              case measure => simp [intOf]; omega
      · have hke' : ¬ (done : Int) = keep := by omega
        have hd1 : decide ((done : Int) = keep) = false := by simp [hke']
        have hd2 : ((done : Int) == keep) = false := by simp [hke']
        by_cases hkn : keep < 0
        · by_cases hd0 : done = 0
          · have HOR : Hid (keep = (done : Int) ∨ keep < 0 ∧ done = 0) := Or.inr ⟨hkn, hd0⟩
            have hd3 : decide ((done : Int) = 0) = true := by simp [hd0]
            have hd4 : ((done : Int) == 0) = true := by simp [hd0]
            have hwe := HST.out.1
            go_wp2_with (first
              | (with_reducible refine wpList_load_mid rfl 45 (.tmp 49) rfl w2.heap.size (p * 64) rfl (bv x0) _ HRW.out Try.underlying45 rfl HI45.out ?_)
              | ((with_reducible refine wpList_alloc_new rfl 45 rfl (bv zer).toArray hZ5 ?_); intro W hW; obtain ⟨g1, g2⟩ := new_filled hW.out; have G1 := Lib.hid g1; have G2 := Lib.hid g2; clear g1 g2 hW)
              | ((with_reducible refine wpList_store_row rfl 45 (.tmp 14) (.tmp 50) rfl wr.heap.size (bv x0).toArray rfl rfl 45 (bv zer).toArray G1.out HI45'.out HZX.out H1x.out ?_); have G3 := Lib.hid (fill_facts (cs' := (bv x0).toArray) G2.out G1.out); have HMU := Lib.hid (HM.out.below G3.out.2); clear G1 G2; generalize W.setRow wr.heap.size (bv x0).toArray = U at *))
            have hko := (Array.getElem?_eq_some_iff.1 G3.out.1).1
            have hwrs : w.heap.size ≤ wr.heap.size := HM.out.m.b.size
            obtain ⟨X, hX⟩ : ∃ X, X = W.drew := ⟨_, rfl⟩
            have hBX : Below U.heap.size U X := by rw [hX]; exact G2.out.drew
            have hxX : X.heap[U.heap.size]? = some (.cells (bv zer).toArray 45 (0, 0)) := by rw [hX]; exact G1.out
            have hMX := HMU.out.below hBX
            obtain ⟨cIX, cDX⟩ := op_cells HRG.out hMX.m.b
            have HLX := Lib.hid (HK.out.hold.below hMX.m.b)
            simp only [Part.val] at cIX cDX HLX
            refine wp_region_tail 6 X hX (by kernel_rfl) (by kernel_rfl) ?_
            obtain ⟨y1, y2, y3⟩ := fill_more hBX hxX 0 (bv l2) (by rw [bv_length, HL2.out]; show 0 + n2 ≤ 64; omega)
            rw [splice_zer] at y1
            have hoY := (y2.block wr.heap.size hko).trans G3.out.1
            have HTB : Hid (TB w (X.setCells U.heap.size 0 (bv l2)) g w2.heap.size wr.heap.size U.heap.size s want (tear (pad l2) x0 0) (pad l2)) := Lib.hid (TB.mk (HMU.out.below y2) hoY y1 (by omega) (by omega))
            have Y3 := Lib.hid y3
            clear hX hBX hxX hMX y1 y2 y3 hoY G1 G2 cI cD
            simp only [List.take_succ_cons, List.take_zero, List.drop_succ_cons, List.drop_zero]
            iterate 6 still_step
            refine wpStill_nil ?_
            have hcn : (bv l2).length = Nat.min n2 64 := by rw [bv_length, HL2.out]; exact (Nat.min_eq_left hn2).symm
            have hcp : 0 < (bv l2).length → (some ⟨U.heap.size, 0, none⟩ : Option Addr) = some ⟨U.heap.size, 0, none⟩ ∧ ∃ ad, A2 = some ad ∧ ∀ j v, (bv l2)[j]? = some v → X.cell? (ad.add j) = some v := fun h0 => by
              obtain ⟨b0, o0, e, _⟩ := HLX.out.2.2.2 (by rw [bv_length, HL2.out] at h0; exact h0)
              exact ⟨rfl, _, e, HLX.out.cells _ e⟩
            refine wpList_copy_cells rfl (.tmp 82) (.tmp 87) 28 28 rfl 5 Try.underlying28 (by kernel_rfl) _ _ _ _ _ _ rfl rfl U.heap.size 0 (bv l2) hcn hcp Y3.out (bv_one _) ?_
            clear hcn hcp HLX Y3
            generalize X.setCells U.heap.size 0 (bv l2) = Y at *
            have hpl : (pad l2).length = 64 := pad_length l2 (by rw [HL2.out]; exact hn2)
            have HPL := Lib.hid hpl
            clear hpl cIX cDX HMU G3
            go_wp2_with fail
            obtain ⟨ko, hkoe⟩ : ∃ ko, ko = wr.heap.size := ⟨_, rfl⟩
            obtain ⟨kx, hkxe⟩ : ∃ kx, kx = U.heap.size := ⟨_, rfl⟩
            rw [← hkoe, ← hkxe] at HTB
            rw [← hkoe, ← hkxe]
            clear hkoe hkxe hko
            go_loopw [16] (fun i wq => ∃ j : Nat, j ≤ clampN torn 64 ∧ i = .int .i64 (j : Int) ∧ TB w wq g w2.heap.size ko kx s want (tear (pad l2) x0 j) (pad l2)) (fun i _ => 64 - (intOf i).toNat)
            case atStart => exact ⟨0, by omega, rfl, HTB.out⟩
            case round =>
              obtain ⟨j, hj, rfl, hT⟩ := hrel
              have HT := Lib.hid hT
              clear hT HTB
              have hj0 : (0 : Int) ≤ (j : Int) := Int.natCast_nonneg _
              by_cases hc : j < clampN torn 64
              · have hj64 : (j : Int) < 64 := by unfold clampN at hc; omega
                have hjt : (j : Int) < torn := by unfold clampN at hc; omega
                obtain ⟨b8, cx, ⟨v, co⟩, fo, hTB⟩ := HT.out.step (by omega) HPL.out HXL.out
                have HTB' := Lib.hid hTB
                clear hTB
                go_wp2_with fail
                go_roundw
                case rel => exact ⟨j + 1, by omega, by go_num, HTB'.out⟩
                case measure => simp [intOf]; omega
              · have hje : j = clampN torn 64 := by omega
                have hj64 : j ≤ 64 := by unfold clampN at hje; omega
                have htl := tear_len (pad l2) x0 j hj64 HPL.out HXL.out
                have htr := HST.out.2.2.1 HOR.out
                rw [HWG.out, ← hje] at htr
                have HTR := Lib.hid htr
                have hci := HT.out.ci.set hpw htl
                have HCI := Lib.hid hci
                have HRO := Lib.hid (range_block HT.out.o)
                have HTH := Lib.hid (HT.out.ci.there hpw)
                clear htr hci
                generalize tear (pad l2) x0 j = y at *
                have hiy : (Try.prog.info? 45).map (·.size) = some (bv y).length := by rw [Try.size45, bv_length, htl]
                have HIY := Lib.hid hiy
                have hiy' : (Try.prog.info? 45).map (·.size) = some (bv y).toArray.size := by simpa using hiy
                have HIY' := Lib.hid hiy'
                have hth : wr.there w2.heap.size (p * 64) (bv y).toArray.size := by
                  have e : (bv y).toArray.size = 64 := by simp [bv_length, htl]
                  rw [e]
                  exact HTH.out
                have HTH' := Lib.hid hth
                have H1y := Lib.hid (all_oneCell_toArray (bv_one y))
                clear hiy hiy' hth htl HTH HT hje
                have hex : ¬ ((j : Int) < 64 ∧ (j : Int) < torn) := by unfold clampN at hc; omega
                by_cases hjx : (j : Int) < 64
                · have hjt : ¬ (j : Int) < torn := fun h => hex ⟨hjx, h⟩
                  clear hex
                  go_wp2_with (first
                    | (with_reducible refine wpList_load_mid rfl 45 (.tmp 14) rfl ko 0 rfl (bv y) _ HRO.out Try.underlying45 rfl HIY.out ?_)
                    | ((with_reducible refine wpList_store_mid rfl 45 (.tmp 105) (.tmp 104) rfl w2.heap.size (p * 64) (bv y).toArray rfl rfl HTH'.out HIY'.out H1y.out ?_); rw [List.toList_toArray]; generalize wr.setCells w2.heap.size (p * 64) (bv y) = V at *; obtain ⟨cIV, cDV⟩ := op_cells HRG.out HCI.out.m.b; have HLV := Lib.hid (HK.out.hold.below HCI.out.m.b); simp only [Part.val] at cIV cDV HLV))
                  refine (write_mine HCI.out.m p A2 n2 c2 l2 HLV.out (by omega) (by omega)).mono ?_
                  rintro e w5 ⟨rfl, h5, ho5⟩
                  rw [hwe]
                  have H5 := Lib.hid (HCI.out.next h5 ho5)
                  clear h5 ho5 HCI
                  go_wp2_with fail
                  go_roundw
                  case rel => exact ⟨k + 1, done + 1, _, _, by omega, by go_num, by go_num, HTR.out, H5.out⟩
                  case measure => simp [intOf]; omega
                · clear hex
                  go_wp2_with (first
                    | (with_reducible refine wpList_load_mid rfl 45 (.tmp 14) rfl ko 0 rfl (bv y) _ HRO.out Try.underlying45 rfl HIY.out ?_)
                    | ((with_reducible refine wpList_store_mid rfl 45 (.tmp 105) (.tmp 104) rfl w2.heap.size (p * 64) (bv y).toArray rfl rfl HTH'.out HIY'.out H1y.out ?_); rw [List.toList_toArray]; generalize wr.setCells w2.heap.size (p * 64) (bv y) = V at *; obtain ⟨cIV, cDV⟩ := op_cells HRG.out HCI.out.m.b; have HLV := Lib.hid (HK.out.hold.below HCI.out.m.b); simp only [Part.val] at cIV cDV HLV))
                  refine (write_mine HCI.out.m p A2 n2 c2 l2 HLV.out (by omega) (by omega)).mono ?_
                  rintro e w5 ⟨rfl, h5, ho5⟩
                  rw [hwe]
                  have H5 := Lib.hid (HCI.out.next h5 ho5)
                  clear h5 ho5 HCI
                  go_wp2_with fail
                  go_roundw
                  case rel => exact ⟨k + 1, done + 1, _, _, by omega, by go_num, by go_num, HTR.out, H5.out⟩
                  case measure => simp [intOf]; omega
          · have hd0' : ¬ (done : Int) = 0 := by omega
            have hd3 : decide ((done : Int) = 0) = false := by simp [hd0]
            have hd4 : ((done : Int) == 0) = false := by simp [hd0]
            have hwe := HST.out.1
            go_wp2_with (first
              | (with_reducible refine wpList_load_mid rfl 45 (.tmp 49) rfl w2.heap.size (p * 64) rfl (bv x0) _ HRW.out Try.underlying45 rfl HI45.out ?_)
              | ((with_reducible refine wpList_alloc_new rfl 45 rfl (bv zer).toArray hZ5 ?_); intro W hW; obtain ⟨g1, g2⟩ := new_filled hW.out; have G1 := Lib.hid g1; have G2 := Lib.hid g2; clear g1 g2 hW)
              | ((with_reducible refine wpList_store_row rfl 45 (.tmp 14) (.tmp 50) rfl wr.heap.size (bv x0).toArray rfl rfl 45 (bv zer).toArray G1.out HI45'.out HZX.out H1x.out ?_); have G3 := Lib.hid (fill_facts (cs' := (bv x0).toArray) G2.out G1.out); have HMU := Lib.hid (HM.out.below G3.out.2); clear G1 G2; generalize W.setRow wr.heap.size (bv x0).toArray = U at *; obtain ⟨cIU, cDU⟩ := op_cells HRG.out HMU.out.m.b; have HLU := Lib.hid (HK.out.hold.below HMU.out.m.b); simp only [Part.val] at cIU cDU HLU))
            refine (write_mine HMU.out.m p A2 n2 c2 l2 HLU.out (by omega) (by omega)).mono ?_
            rintro e w5 ⟨rfl, h5, ho5⟩
            rw [hwe]
            have H5 := Lib.hid (HMU.out.next h5 ho5)
            clear h5 ho5 HMU
            go_wp2_with fail
            go_roundw
            case rel => exact ⟨k + 1, done + 1, _, _, by omega, by go_num, by go_num, HST.out.2.2.2 (by omega) (by omega) (by omega), H5.out⟩
            case measure => simp [intOf]; omega
        · have hwe := HST.out.1
          go_wp2_with (first
            | (with_reducible refine wpList_load_mid rfl 45 (.tmp 49) rfl w2.heap.size (p * 64) rfl (bv x0) _ HRW.out Try.underlying45 rfl HI45.out ?_)
            | ((with_reducible refine wpList_alloc_new rfl 45 rfl (bv zer).toArray hZ5 ?_); intro W hW; obtain ⟨g1, g2⟩ := new_filled hW.out; have G1 := Lib.hid g1; have G2 := Lib.hid g2; clear g1 g2 hW)
            | ((with_reducible refine wpList_store_row rfl 45 (.tmp 14) (.tmp 50) rfl wr.heap.size (bv x0).toArray rfl rfl 45 (bv zer).toArray G1.out HI45'.out HZX.out H1x.out ?_); have G3 := Lib.hid (fill_facts (cs' := (bv x0).toArray) G2.out G1.out); have HMU := Lib.hid (HM.out.below G3.out.2); clear G1 G2; generalize W.setRow wr.heap.size (bv x0).toArray = U at *; obtain ⟨cIU, cDU⟩ := op_cells HRG.out HMU.out.m.b; have HLU := Lib.hid (HK.out.hold.below HMU.out.m.b); simp only [Part.val] at cIU cDU HLU))
          refine (write_mine HMU.out.m p A2 n2 c2 l2 HLU.out (by omega) (by omega)).mono ?_
          rintro e w5 ⟨rfl, h5, ho5⟩
          rw [hwe]
          have H5 := Lib.hid (HMU.out.next h5 ho5)
          clear h5 ho5 HMU
          go_wp2_with fail
          go_roundw
          case rel => exact ⟨k + 1, done + 1, _, _, by omega, by go_num, by go_num, HST.out.2.2.2 (by omega) (by omega) (by omega), H5.out⟩
          case measure => simp [intOf]; omega
    · obtain rfl : k = N := by omega
      have hcl : s.cSt keep torn = ⟨want, [], -1⟩ := by unfold D.cSt; rw [HS.out.wn]
      go_wp2_with fail
      refine (crash_mine HM.out.m keep torn (by omega)).mono ?_
      rintro e w5 ⟨rfl, h5, ho5⟩
      rw [hcl] at h5
      have H5 := Lib.hid (HM.out.next h5 ho5)
      clear h5 ho5 HM hcl HS
      go_wp2_with fail
      go_loopw [17] (fun i wq => ∃ j : Nat, j ≤ 4 ∧ i = .int .i64 (j : Int) ∧ CI w wq g w2.heap.size ⟨want, [], -1⟩ want) (fun i _ => 4 - (intOf i).toNat)
      case atStart => exact ⟨0, by omega, rfl, H5.out⟩
      case round =>
        obtain ⟨j, hj, rfl, hC⟩ := hrel
        have HC := Lib.hid hC
        clear hC H5
        have hj0 : (0 : Int) ≤ (j : Int) := Int.natCast_nonneg _
        by_cases hc : j < 4
        · have hj4 : (j : Int) < 4 := by omega
          have hjw : j < want.length := by rw [HC.out.l4]; exact hc
          have hrf : (D.mk want [] (-1)).refuse (j : Int) = 0 := by
            unfold D.refuse
            rw [if_neg (by show ¬ (-1 : Int) = 0; omega), if_neg (by show ¬ ((j : Int) < 0 ∨ (want.length : Int) ≤ (j : Int)); omega)]
          have htd : (D.mk want [] (-1)).told (j : Int).toNat = want[j] := by
            show (want[(j : Int).toNat]?).getD [] = want[j]
            rw [Int.toNat_natCast, List.getElem?_eq_getElem hjw]
            rfl
          have hx64 := HC.out.e64 _ (List.getElem_mem hjw)
          have HTD := Lib.hid htd
          clear htd
          go_wp2_with fail
          refine (read_ok HC.out.m (j : Int) (by show 0 ≤ _; omega) hrf).mono ?_
          rintro e w6 ⟨kb, rfl, _, hcont, hb6, h6⟩
          rw [HTD.out] at hcont
          have hC6 := HC.out.below hb6
          have hrg := hC6.range hjw
          generalize want[j] = x at *
          have HA := Lib.hid (Hold.block hcont 64 hx64.symm)
          have hbw : Hold w6 (some ⟨w2.heap.size, j * 64, none⟩) 64 64 x := ⟨hx64, by omega, (fun e => by cases e), fun _ => ⟨_, _, rfl, fun i hi => hrg i _ ((bv_get x i _).2 ⟨hi, rfl⟩)⟩⟩
          have HBW := Lib.hid hbw
          have HC6 := Lib.hid hC6
          clear hbw hrg hC6 hcont hb6 h6 HC HTD hrf hx64
          go_wp2_with fail
          refine wp_region_steps (fun i v _ => crF kb w2.heap.size j x i v) (fun w w' => Below w.heap.size w w') (by kernel_rfl) (by kernel_rfl) (fun w => Below.refl _ _) (fun _ _ _ h k => Below.trans h (Below.mono k (Below.size h))) (fun _ _ _ _ h _ => h) ?_ ?_
          · refine ⟨?_, ?_, ?_, ?_, ?_, ?_, ?_, ?_, ?_, ?_, ?_, trivial⟩
            · intro a W hR hoff hd
              left
              refine ⟨rfl, ?_⟩
              have e0 : a.tmps.getD 19 undef = .int .i64 0 := hoff.slot 19 (no_dst (by kernel_rfl))
              go_simp
              exact ⟨_, rfl, rfl, Below.refl _ _⟩
            · intro a W hR hoff hd
              left
              refine ⟨rfl, ?_⟩
              have e0 : a.tmps.getD 144 undef = .int .i64 0 := hd 0 _ rfl rfl
              go_simp
              exact ⟨_, rfl, rfl, Below.refl _ _⟩
            · intro a W hR hoff hd
              left
              refine ⟨rfl, ?_⟩
              have e0 : a.tmps.getD 145 undef = .bool false := hd 1 _ rfl rfl
              go_simp
              exact ⟨_, rfl, rfl, Below.refl _ _⟩
            · intro a W hR hoff hd
              left
              have eg : a.tmps.getD 146 undef = .bool false := hd 2 _ rfl rfl
              refine ⟨wanted_of (ops := _) (j := 2) (b := false) rfl rfl rfl eg, ?_⟩
              clear eg
              have e0 : a.tmps.getD 18 undef = .slice (some ⟨kb, 0, none⟩) 64 64 := hoff.slot 18 (no_dst (by kernel_rfl))
              go_simp
              exact ⟨_, rfl, rfl, Below.refl _ _⟩
            · intro a W hR hoff hd
              left
              have eg : a.tmps.getD 146 undef = .bool false := hd 2 _ rfl rfl
              refine ⟨wanted_of (ops := _) (j := 2) (b := false) rfl rfl rfl eg, ?_⟩
              clear eg
              have e0 : a.tmps.getD 147 undef = .slice (some ⟨kb, 0, none⟩) 64 64 := hd 3 _ rfl rfl
              have cv := conv_hold (HA.out.drew.below hR)
              go_simp
              exact ⟨_, rfl, rfl, Below.refl _ _⟩
            · intro a W hR hoff hd
              left
              have eg : a.tmps.getD 146 undef = .bool false := hd 2 _ rfl rfl
              refine ⟨wanted_of (ops := _) (j := 2) (b := false) rfl rfl rfl eg, ?_⟩
              clear eg
              have e0 : a.tmps.getD 17 undef = .int .i64 (j : Int) := hoff.slot 17 (no_dst (by kernel_rfl))
              go_simp
              exact ⟨_, rfl, rfl, Below.refl _ _⟩
            · intro a W hR hoff hd
              left
              have eg : a.tmps.getD 146 undef = .bool false := hd 2 _ rfl rfl
              refine ⟨wanted_of (ops := _) (j := 2) (b := false) rfl rfl rfl eg, ?_⟩
              clear eg
              have e0 : a.tmps.getD 10 undef = .pointer (some ⟨w2.heap.size, 0, none⟩) := hoff.slot 10 (no_dst (by kernel_rfl))
              have e1 : a.tmps.getD 149 undef = .int .i64 (j : Int) := hd 5 _ rfl rfl
              go_simp
              exact ⟨_, rfl, rfl, Below.refl _ _⟩
            · intro a W hR hoff hd
              left
              have eg : a.tmps.getD 146 undef = .bool false := hd 2 _ rfl rfl
              refine ⟨wanted_of (ops := _) (j := 2) (b := false) rfl rfl rfl eg, ?_⟩
              clear eg
              have e0 : a.tmps.getD 150 undef = .pointer (some ⟨w2.heap.size, j * 64, none⟩) := hd 6 _ rfl rfl
              go_simp
              exact ⟨_, rfl, rfl, Below.refl _ _⟩
            · intro a W hR hoff hd
              left
              have eg : a.tmps.getD 146 undef = .bool false := hd 2 _ rfl rfl
              refine ⟨wanted_of (ops := _) (j := 2) (b := false) rfl rfl rfl eg, ?_⟩
              clear eg
              have e0 : a.tmps.getD 151 undef = .slice (some ⟨w2.heap.size, j * 64, none⟩) 64 64 := hd 7 _ rfl rfl
              have cv := conv_hold (HBW.out.drew.below hR)
              go_simp
              exact ⟨_, rfl, rfl, Below.refl _ _⟩
            · intro a W hR hoff hd
              left
              have eg : a.tmps.getD 146 undef = .bool false := hd 2 _ rfl rfl
              refine ⟨wanted_of (ops := _) (j := 2) (b := false) rfl rfl rfl eg, ?_⟩
              clear eg
              have e0 : a.tmps.getD 148 undef = .string ⟨x.toArray⟩ := hd 4 _ rfl rfl
              have e1 : a.tmps.getD 152 undef = .string ⟨x.toArray⟩ := hd 8 _ rfl rfl
              go_simp
              exact ⟨_, rfl, rfl, Below.refl _ _⟩
            · intro a W hR hoff hd
              left
              refine ⟨rfl, ?_⟩
              have e0 : a.tmps.getD 146 undef = .bool false := hd 2 _ rfl rfl
              have e1 : a.tmps.getD 153 undef = .bool false := hd 9 _ rfl rfl
              go_simp
              exact ⟨_, rfl, rfl, Below.refl _ _⟩
          · intro a W hR hoff hd
            have e154 : a.tmps.getD 154 undef = .bool false := hd 10 _ rfl
            have HCW := Lib.hid ((HC6.out.below ((Below.refl _ _).drew)).below hR)
            obtain ⟨ys, hys, ha⟩ := off_form hoff (mask := [false, false, false, false, false, false, false, false, false, false, false, false, false, false, false, false, false, false, false, false, false, false, false, false, false, false, false, false, false, false, false, false, false, false, false, false, false, false, false, false, false, false, false, false, false, false, false, false, false, false, false, false, false, false, false, false, false, false, false, false, false, false, false, false, false, false, false, false, false, false, false, false, false, false, false, false, false, false, false, false, false, false, false, false, false, false, false, false, false, false, false, false, false, false, false, false, false, false, false, false, false, false, false, false, false, false, false, false, false, false, false, false, false, false, false, false, false, false, false, false, false, false, false, false, false, false, false, false, false, false, false, false, false, false, false, false, false, false, false, false, false, false, false, false, true, true, true, true, true, true, true, true, true, true, true, false, false, false, false, false, false, false, false]) (by kernel_rfl)
            rw [hys] at e154
            clear hd hoff hys hR HC6 HA HBW
            subst ha
            simp only [fillFrom, e154]
            go_wp2_with fail
            go_roundw
            case rel => exact ⟨j + 1, by omega, by go_num, HCW.out⟩
            case measure => simp [intOf]; omega
        · obtain rfl : j = 4 := by omega
          go_wp2_with fail
          refine (waits_mine HC.out.m).mono ?_
          rintro e w6 ⟨rfl, rfl⟩
          go_wp2_with fail
          refine (down_mine HC.out.m).mono ?_
          rintro e w7 ⟨rfl, rfl⟩
          have hdf : decide ((D.mk want [] (-1)).left = 0) = false := rfl
          rw [hdf]
          go_wp2_with fail
          go_ret
          exact ⟨rfl, HC.out.m.b⟩
end Go.Proofs.Ytmajmohnnfjiaaa
