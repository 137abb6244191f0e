/-
  What is proved: what the document's Write answers and leaves, told by the same lists.
-/
import Derived.Test.YtkghjgpeobacjaaRcrash
namespace Go.Proofs.Ytkghjgpeobacjaa
open Go.RowKit
open Go.Maps (Keyed int_keyed keyOf_int_mk IsMap)

theorem Try.info68 : (Try.prog.info? 90).map (fun i => (i.zero, i.size, i.bytes)) = some (some (.agg #[.int .i64 0, .slice none 0 0]), 2, 32) := by kernel_rfl
theorem rrow_snoc (bs : List RB) (x : RB) : rrow (bs ++ [x]) = rrow bs ++ rbV x := by simp [rrow]
/-- the bytes lie in new memory -/
def Laid (V w : World) (k : Nat) (x : List UInt8) : Prop := Below V.heap.size V w ∧ V.heap.size ≤ k ∧ w.heap[k]? = some (.cells (bv x).toArray 5 (0, 0))
def M7 (V : World) (x : List UInt8) (v : Value) (w : World) : Prop := ∃ k, v = .slice (some ⟨k, 0, none⟩) 64 64 ∧ Laid V w k x
def M8 (V : World) (p : Nat) (x : List UInt8) (v : Value) (w : World) : Prop := ∃ k, v = .agg #[.int .i64 (p : Int), .slice (some ⟨k, 0, none⟩) 64 64] ∧ Laid V w k x
def M9 (V : World) (p : Nat) (x : List UInt8) (v : Value) (w : World) : Prop := ∃ b k, v = .slice (some ⟨b, 0, none⟩) 1 1 ∧ Laid V w k x ∧ V.heap.size ≤ b ∧ w.heap[b]? = some (.cells #[.int .i64 (p : Int), .slice (some ⟨k, 0, none⟩) 64 64] 90 (0, 0))
def M10 (V : World) (q : Option Nat) (bs : List RB) (p : Nat) (x : List UInt8) (v : Value) (w : World) : Prop :=
  ∃ Q cap k, v = .slice (some ⟨Q, 0, none⟩) (bs.length + 1) cap ∧ w.ownsRow 0 90 2 (.slice (some ⟨Q, 0, none⟩) (bs.length + 1) cap) (bs.length + 1) (rrow (bs ++ [(p, k, x)])) ∧ (q = some Q ∨ V.heap.size ≤ Q) ∧ w.heap[k]? = some (.cells (bv x).toArray 5 (0, 0)) ∧ Chg (fun b => q = some b) V w
def Fin12 (V : World) (m mp : Nat) (q : Option Nat) (s : D) (u p : Nat) (x : List UInt8) (w : World) : Prop := RAfter V w m mp q ⟨s.last, s.buf ++ [(p, x)], s.left⟩ u
def wJ (V : World) (m mp : Nat) (q : Option Nat) (bs : List RB) (s : D) (u p : Nat) (x : List UInt8) (ls : Nat → Bool) (a : Act) (w : World) : Prop :=
  if ls 13 = true then Fin12 V m mp q s u p x w else if ls 10 = true then M10 V q bs p x (a.tmps.getD 34 undef) w else if ls 9 = true then M9 V p x (a.tmps.getD 33 undef) w
  else if ls 8 = true then M8 V p x (a.tmps.getD 32 undef) w else if ls 7 = true then M7 V x (a.tmps.getD 31 undef) w else Below V.heap.size V w
section
variable {V : World} {m mp : Nat} {q : Option Nat} {bs : List RB} {s : D} {u p : Nat} {x : List UInt8} {ls : Nat → Bool} {a : Act} {w : World}
theorem wJ.pure (h : wJ V m mp q bs s u p x ls a w) {i d : Nat} (hi : i ≠ 7 ∧ i ≠ 8 ∧ i ≠ 9 ∧ i ≠ 10 ∧ i ≠ 13) (hd : d ≠ 31 ∧ d ≠ 32 ∧ d ≠ 33 ∧ d ≠ 34) (v : Value) : wJ V m mp q bs s u p x (updB ls i) (a.put (some d) v) w := by
  unfold wJ at *
  rw [updB_other ls (Ne.symm hi.1), updB_other ls (Ne.symm hi.2.1), updB_other ls (Ne.symm hi.2.2.1), updB_other ls (Ne.symm hi.2.2.2.1), updB_other ls (Ne.symm hi.2.2.2.2),
    put_other a (some d) v 31 (by intro e; injection e with e; exact hd.1 e), put_other a (some d) v 32 (by intro e; injection e with e; exact hd.2.1 e), put_other a (some d) v 33 (by intro e; injection e with e; exact hd.2.2.1 e), put_other a (some d) v 34 (by intro e; injection e with e; exact hd.2.2.2 e)]
  exact h
theorem wJ.b (h : wJ V m mp q bs s u p x ls a w) (h13 : ls 13 = false) (h10 : ls 10 = false) : Below V.heap.size V w := by
  unfold wJ at h
  rw [h13, h10, if_neg (by decide), if_neg (by decide)] at h
  split at h
  · obtain ⟨b, k, _, hl, _⟩ := h; exact hl.1
  · split at h
    · obtain ⟨k, _, hl⟩ := h; exact hl.1
    · split at h
      · obtain ⟨k, _, hl⟩ := h; exact hl.1
      · exact h
theorem wJ.m7 (h : wJ V m mp q bs s u p x ls a w) (h13 : ls 13 = false) (h10 : ls 10 = false) (h9 : ls 9 = false) (h8 : ls 8 = false) (h7 : ls 7 = true) : M7 V x (a.tmps.getD 31 undef) w := by
  unfold wJ at h; simpa [h13, h10, h9, h8, h7] using h
theorem wJ.m8 (h : wJ V m mp q bs s u p x ls a w) (h13 : ls 13 = false) (h10 : ls 10 = false) (h9 : ls 9 = false) (h8 : ls 8 = true) : M8 V p x (a.tmps.getD 32 undef) w := by
  unfold wJ at h; simpa [h13, h10, h9, h8] using h
theorem wJ.m9 (h : wJ V m mp q bs s u p x ls a w) (h13 : ls 13 = false) (h10 : ls 10 = false) (h9 : ls 9 = true) : M9 V p x (a.tmps.getD 33 undef) w := by
  unfold wJ at h; simpa [h13, h10, h9] using h
theorem wJ.m10 (h : wJ V m mp q bs s u p x ls a w) (h13 : ls 13 = false) (h10 : ls 10 = true) : M10 V q bs p x (a.tmps.getD 34 undef) w := by
  unfold wJ at h; simpa [h13, h10] using h
theorem wJ.mk7 {v : Value} (hs : 31 < a.tmps.size) (h13 : ls 13 = false) (h10 : ls 10 = false) (h9 : ls 9 = false) (h8 : ls 8 = false) (h : M7 V x v w) : wJ V m mp q bs s u p x (updB ls 7) (a.put (some 31) v) w := by
  unfold wJ; simpa [updB, h13, h10, h9, h8, Act.put, hs] using h
theorem wJ.mk8 {v : Value} (hs : 32 < a.tmps.size) (h13 : ls 13 = false) (h10 : ls 10 = false) (h9 : ls 9 = false) (h : M8 V p x v w) : wJ V m mp q bs s u p x (updB ls 8) (a.put (some 32) v) w := by
  unfold wJ; simpa [updB, h13, h10, h9, Act.put, hs] using h
theorem wJ.mk9 {v : Value} (hs : 33 < a.tmps.size) (h13 : ls 13 = false) (h10 : ls 10 = false) (h : M9 V p x v w) : wJ V m mp q bs s u p x (updB ls 9) (a.put (some 33) v) w := by
  unfold wJ; simpa [updB, h13, h10, Act.put, hs] using h
theorem wJ.mk10 {v : Value} (hs : 34 < a.tmps.size) (h13 : ls 13 = false) (h : M10 V q bs p x v w) : wJ V m mp q bs s u p x (updB ls 10) (a.put (some 34) v) w := by
  unfold wJ; simpa [updB, h13, Act.put, hs] using h
theorem Laid.below {w' : World} {k : Nat} (h : Laid V w k x) (hb : Below w.heap.size w w') : Laid V w' k x :=
  ⟨h.1.trans (hb.mono h.1.size), h.2.1, by rw [hb.block k (Array.getElem?_eq_some_iff.1 h.2.2).1]; exact h.2.2⟩
/-- the row is put into the disk -/
theorem M10.fin {Q cap k : Nat} (hR : Rk V m mp q bs s u) (hp : p < s.last.length) (hx : x.length = 64) (hown : w.ownsRow 0 90 2 (.slice (some ⟨Q, 0, none⟩) (bs.length + 1) cap) (bs.length + 1) (rrow (bs ++ [(p, k, x)]))) (hQ : q = some Q ∨ V.heap.size ≤ Q) (hk : w.heap[k]? = some (.cells (bv x).toArray 5 (0, 0))) (hc : Chg (fun b => q = some b) V w) :
    (∃ v, w.cell? ⟨m, 2, none⟩ = some v) ∧ w.frozen? ⟨m, 2, none⟩ = false ∧ RAfter V (w.setCell ⟨m, 2, none⟩ (.slice (some ⟨Q, 0, none⟩) (bs.length + 1) cap)) m mp q ⟨s.last, s.buf ++ [(p, x)], s.left⟩ u := by
  have ha := hR.apart
  have hlt := hR.lt
  have ok := hR.ok
  have hdt := hR.data
  have hbf := hR.buf
  obtain ⟨A, c, n, Dm, hm, hM, hn, hI, hO, hB, hq⟩ := hR.form
  have hm' : w.heap[m]? = _ := (hc.block m (hlt m rfoot_m) ha.2.1).trans hm
  have hmp' : w.heap[mp]? = V.heap[mp]? := hc.block mp (hlt mp rfoot_mp) ha.2.2.1
  obtain ⟨_, _, c2, _, _, f⟩ := five_cells hm'
  have hkm : k ≠ m := tag_ne hk hm' (by decide)
  refine ⟨⟨_, c2⟩, f 2, some Q, bs ++ [(p, k, x)], ⟨⟨ok.sec, ?_, ok.pos, ok.most, ok.lo, ok.hi⟩, ⟨_, n, Dm, heap_setCell_at hm' 2 _, map_keep hM ((Below.heap_setCell _ _ _ _ (Ne.symm ha.1)).trans hmp'), hn, hI, hO, ?_, rfl⟩, ?_, ?_⟩, ?_, ?_⟩
  · intro y hy
    rcases List.mem_append.1 hy with hy | hy
    · exact ok.wr y hy
    · simp at hy
      subst hy
      exact ⟨hp, hx⟩
  · have := own_keep (w' := w.setCell ⟨m, 2, none⟩ (.slice (some ⟨Q, 0, none⟩) (bs.length + 1) cap)) hown (fun b hb => by
      injection hb with hb
      simp only at hb
      subst hb
      refine Below.heap_setCell _ _ _ _ (fun e => ?_)
      obtain ⟨C', hC'⟩ := own_tag hown (b := Q) rfl
      exact tag_ne hC' hm' (by decide) e)
    simpa using this
  · simp [rbuf, hbf]
  · intro y hy
    rcases List.mem_append.1 hy with hy | hy
    · have hyf := ha.2.2.2 y hy
      rw [Below.heap_setCell _ _ _ _ (fun e => hyf (Or.inl e)), hc.block _ (Array.getElem?_eq_some_iff.1 (hdt y hy)).1 (fun e => hyf (Or.inr (Or.inr e)))]
      exact hdt y hy
    · simp at hy
      subst hy
      rw [Below.heap_setCell _ _ _ _ hkm]
      exact hk
  · exact chg_m rfoot_m (hc.mono (fun b hb => Or.inr (Or.inr hb)))
  · intro b hb
    injection hb with hb
    subst hb
    exact hQ
end

/-- what the operations of the statement that puts a write behind the others yield -/
def rpF (m n : Nat) (A : Option Addr) (c p : Nat) (A0 : Option Addr) (n0 c0 : Nat) : Nat → Value → Prop
  | 0, v | 1, v | 2, v | 11, v => v = .pointer (some ⟨m, 0, none⟩)
  | 3, v | 12, v => v = .pointer (some ⟨m, 2, none⟩)
  | 4, v => v = .slice A n c
  | 5, v => v = .int .i64 (p : Int)
  | 6, v => v = .slice A0 n0 c0
  | _, _ => True

set_option maxRecDepth 100000 in
set_option maxHeartbeats 2000000 in
theorem rwrite_done (w : World) (m mp : Nat) (q : Option Nat) (bs : List RB) (s : D) (u : Nat) (h : Rk w m mp q bs s u) (i : Int) (A0 : Option Addr) (n0 c0 : Nat) (l : List UInt8) (hl : Hold w A0 n0 c0 l) (hr : s.refuse i = 0) (hn0 : n0 ≤ 64) (hn : bs.length ≤ 1048576) :
    Calls Try.prog 21 #[.pointer (some ⟨m, 0, none⟩), .int .i64 i, .slice A0 n0 c0] w fun e w' => e = .returned (.int .i64 0) ∧ RAfter w w' m mp q ⟨s.last, s.buf ++ [(i.toNat, pad l)], tick s.left⟩ u := by
  obtain ⟨i0, hi0, hz0, hz1, hz2⟩ := info_parts Try.info68
  obtain ⟨hl0, h1, h2⟩ := refuse_zero hr
  obtain ⟨p, rfl⟩ := Int.eq_ofNat_of_zero_le h1
  have hpl : p < s.last.length := by omega
  have hx : (pad l).length = 64 := pad_length l (by rw [hl.1]; exact hn0)
  obtain ⟨A, c, k, Dm, hm, _, _, _, _, hB, hq⟩ := h.form
  obtain ⟨b0, _, _, _, b4, _⟩ := five_cells hm
  have hd : decide (s.left = 0) = false := by simp [hl0]
  rw [hd] at b4
  have hp1 : ¬ (p : Int) < 0 := by omega
  have hp2 : ¬ (s.last.length : Int) ≤ (p : Int) := by omega
  have hn0' : ¬ (64 : Int) < (n0 : Int) := by omega
  obtain ⟨V, hV⟩ : ∃ V, V = w.drew := ⟨_, rfl⟩
  have HV := Lib.hid hV
  have hRV : Rk V m mp q bs s u := by rw [hV]; exact h.drew
  have HRV := Lib.hid hRV
  have HLV : Hid (Hold V A0 n0 c0 l) := by rw [hV]; exact hl.drew
  have HBV : Hid (V.ownsRow 0 90 2 (.slice A bs.length c) bs.length (rrow bs)) := by rw [hV]; exact hB
  have HCV : Hid (∀ W, Below V.heap.size V W → W.cell? ⟨m, 2, none⟩ = some (.slice A bs.length c)) := fun W hb => by
    have hmV : V.heap[m]? = w.heap[m]? := by rw [hV]; rfl
    have := (hb.block m (hRV.lt m rfoot_m)).trans (hmV.trans hm)
    exact (five_cells this).2.2.1
  have HQ := Lib.hid hq
  have HX := Lib.hid hx
  clear h hl hr hm hB hd hx hV hRV hq
  simp only [Int.toNat_natCast]
  go_enter Try.func21, Try.ntmps21
  go_wp2_with fail
  refine wp_region_stepsA (rpF m bs.length A c p A0 n0 c0) (wJ V m mp q bs s u p (pad l)) (by kernel_rfl) (by kernel_rfl) (by rw [← HV.out]; exact Below.refl _ _) ?_ ?_
  · refine ⟨?_, ?_, ?_, ?_, ?_, ?_, ?_, ?_, ?_, ?_, ?_, ?_, ?_, ?_, trivial⟩
    · intro a W ls hJ hi hcl hd hoff hf
      left
      refine ⟨rfl, ?_⟩
      have e0 : a.tmps.getD 0 undef = .pointer (some ⟨m, 0, none⟩) := hoff.slot 0 (no_dst (by kernel_rfl))
      go_simp
      exact ⟨_, rfl, rfl, hJ.pure (by decide) (by decide) _⟩
    · intro a W ls hJ hi hcl hd hoff hf
      left
      refine ⟨rfl, ?_⟩
      have e0 : a.tmps.getD 0 undef = .pointer (some ⟨m, 0, none⟩) := hoff.slot 0 (no_dst (by kernel_rfl))
      go_simp
      exact ⟨_, rfl, rfl, hJ.pure (by decide) (by decide) _⟩
    · intro a W ls hJ hi hcl hd hoff hf
      left
      refine ⟨rfl, ?_⟩
      have e0 : a.tmps.getD 25 undef = .pointer (some ⟨m, 0, none⟩) := hf 1 _ (hd 1 rfl) rfl
      go_simp
      exact ⟨_, rfl, rfl, hJ.pure (by decide) (by decide) _⟩
    · intro a W ls hJ hi hcl hd hoff hf
      left
      refine ⟨rfl, ?_⟩
      have e0 : a.tmps.getD 26 undef = .pointer (some ⟨m, 0, none⟩) := hf 2 _ (hd 2 rfl) rfl
      go_simp
      exact ⟨_, rfl, rfl, hJ.pure (by decide) (by decide) _⟩
    · intro a W ls hJ hi hcl hd hoff hf
      left
      refine ⟨rfl, ?_⟩
      have e0 : a.tmps.getD 27 undef = .pointer (some ⟨m, 2, none⟩) := hf 3 _ (hd 3 rfl) rfl
      have h10 : ls 10 = false := hcl.no hi rfl rfl
      have h13 : ls 13 = false := hcl.no h10 rfl rfl
      have hc2 := HCV.out W (hJ.b h13 h10)
      go_simp
      exact ⟨_, rfl, rfl, hJ.pure (by decide) (by decide) _⟩
    · intro a W ls hJ hi hcl hd hoff hf
      left
      refine ⟨rfl, ?_⟩
      have e0 : a.tmps.getD 1 undef = .int .i64 (p : Int) := hoff.slot 1 (no_dst (by kernel_rfl))
      go_simp
      exact ⟨_, rfl, rfl, hJ.pure (by decide) (by decide) _⟩
    · intro a W ls hJ hi hcl hd hoff hf
      left
      refine ⟨rfl, ?_⟩
      have e0 : a.tmps.getD 2 undef = .slice A0 n0 c0 := hoff.slot 2 (no_dst (by kernel_rfl))
      go_simp
      exact ⟨_, rfl, rfl, hJ.pure (by decide) (by decide) _⟩
    · intro a W ls hJ hi hcl hd hoff hf
      left
      refine ⟨rfl, ?_⟩
      have e0 : a.tmps.getD 30 undef = .slice A0 n0 c0 := hf 6 _ (hd 6 rfl) rfl
      have h8 : ls 8 = false := hcl.no hi rfl rfl
      have h9 : ls 9 = false := hcl.no h8 rfl rfl
      have h10 : ls 10 = false := hcl.no h9 rfl rfl
      have h13 : ls 13 = false := hcl.no h10 rfl rfl
      have hbW := Lib.hid (hJ.b h13 h10)
      have hsz : 31 < a.tmps.size := by rw [show a.tmps.size = 39 from hoff.size]; omega
      clear hJ
      go_simp
      refine (whole_any W A0 n0 c0 l (HLV.out.below hbW.out) hn0).mono ?_
      rintro e W2 ⟨k2, rfl, hk2, hc2, hb2⟩
      exact ⟨_, rfl, trivial, wJ.mk7 hsz h13 h10 h9 h8 ⟨k2, rfl, hbW.out.trans (hb2.mono hbW.out.size), Nat.le_trans hbW.out.size hk2, hc2⟩⟩
    · intro a W ls hJ hi hcl hd hoff hf
      left
      refine ⟨rfl, ?_⟩
      have h9 : ls 9 = false := hcl.no hi rfl rfl
      have h10 : ls 10 = false := hcl.no h9 rfl rfl
      have h13 : ls 13 = false := hcl.no h10 rfl rfl
      have e5 : a.tmps.getD 29 undef = .int .i64 (p : Int) := hf 5 _ (hd 5 rfl) rfl
      obtain ⟨k2, e7, hla⟩ := hJ.m7 h13 h10 h9 hi (hd 7 rfl)
      have HLA := Lib.hid hla
      have hsz : 32 < a.tmps.size := by rw [show a.tmps.size = 39 from hoff.size]; omega
      have e5' : a.tmps[29]?.getD undef = .int .i64 (p : Int) := by simpa using e5
      have e7' : a.tmps[31]?.getD undef = .slice (some ⟨k2, 0, none⟩) 64 64 := by simpa using e7
      clear hla hJ
      go_simp
      exact ⟨_, rfl, trivial, wJ.mk8 hsz h13 h10 h9 ⟨k2, rfl, HLA.out⟩⟩
    · intro a W ls hJ hi hcl hd hoff hf
      left
      refine ⟨rfl, ?_⟩
      have h10 : ls 10 = false := hcl.no hi rfl rfl
      have h13 : ls 13 = false := hcl.no h10 rfl rfl
      obtain ⟨k2, e8, hla⟩ := hJ.m8 h13 h10 hi (hd 8 rfl)
      have HLA := Lib.hid hla
      have hsz : 33 < a.tmps.size := by rw [show a.tmps.size = 39 from hoff.size]; omega
      have e8' : a.tmps[32]?.getD undef = .agg #[.int .i64 (p : Int), .slice (some ⟨k2, 0, none⟩) 64 64] := by simpa using e8
      clear hla hJ
      go_simp
      exact ⟨_, rfl, trivial, wJ.mk9 hsz h13 h10 ⟨W.heap.size, k2, rfl, HLA.out.below ((Below.refl _ _).alloc (Nat.le_refl _) _), HLA.out.1.size, heap_alloc_new W _⟩⟩
    · intro a W ls hJ hi hcl hd hoff hf
      left
      refine ⟨rfl, ?_⟩
      have h13 : ls 13 = false := hcl.no hi rfl rfl
      have e4 : a.eval (.tmp 28) = .slice A bs.length c := hf 4 _ (hd 4 rfl) rfl
      obtain ⟨b2, k2, e9, hla, hb2, hc2⟩ := hJ.m9 h13 hi (hd 9 rfl)
      have hsz : 34 < a.tmps.size := by rw [show a.tmps.size = 39 from hoff.size]; omega
      have hownW := own_belowG HBV.out hla.1
      refine wp_append_lies W (.tmp 28) (.tmp 33) 51 rfl 0 90 i0 _ 2 32 Try.underlying51 hi0 hz0 hz1 hz2 rfl (by omega) (.slice A bs.length c) bs.length (rrow bs) e4 hownW ⟨b2, 0, none⟩ 1 1 (rbV (p, k2, pad l)) e9 rfl (World.news_of_block (cs := #[.int .i64 (p : Int), .slice (some ⟨k2, 0, none⟩) 64 64]) (t := 90) (fr := (0, 0)) hc2) (by intro u hu; simp [rbV] at hu; rcases hu with rfl | rfl <;> rfl) (by omega) (by unfold maxLen; omega) (by omega) (by omega) _ rfl ?_
      intro Q cap W2 hown2 hgrow2 hat2 hlt2
      rw [HQ.out] at hgrow2 hat2
      refine ⟨_, rfl, trivial, wJ.mk10 hsz h13 ⟨Q, cap, k2, rfl, by rw [rrow_snoc]; exact hown2, ?_, ?_, ?_⟩⟩
      · rcases hat2 with e | e
        · exact .inl e
        · exact .inr (by have := hla.1.size; omega)
      · have hne : some k2 ≠ q := fun e => by have := HRV.out.lt k2 (Or.inr (Or.inr e.symm)); have := hla.2.1; omega
        rw [hgrow2.block k2 (Array.getElem?_eq_some_iff.1 hla.2.2).1 hne]
        exact hla.2.2
      · exact (Chg.of_below hla.1).grown hgrow2 (fun b hb => .inl hb)
    · intro a W ls hJ hi hcl hd hoff hf
      left
      refine ⟨rfl, ?_⟩
      have e0 : a.tmps.getD 24 undef = .pointer (some ⟨m, 0, none⟩) := hf 0 _ (hd 0 rfl) rfl
      go_simp
      exact ⟨_, rfl, rfl, hJ.pure (by decide) (by decide) _⟩
    · intro a W ls hJ hi hcl hd hoff hf
      left
      refine ⟨rfl, ?_⟩
      have e0 : a.tmps.getD 35 undef = .pointer (some ⟨m, 0, none⟩) := hf 11 _ (hd 11 rfl) rfl
      go_simp
      exact ⟨_, rfl, rfl, hJ.pure (by decide) (by decide) _⟩
    · intro a W ls hJ hi hcl hd hoff hf
      left
      refine ⟨rfl, ?_⟩
      have e0 : a.tmps.getD 36 undef = .pointer (some ⟨m, 2, none⟩) := hf 12 _ (hd 12 rfl) rfl
      obtain ⟨Q, cap, k2, e10, hown, hQ, hk2, hcg⟩ := hJ.m10 hi (hd 10 rfl)
      obtain ⟨⟨v, hc⟩, hfz, hfin⟩ := M10.fin HRV.out hpl HX.out hown hQ hk2 hcg
      have HF : Hid (wJ V m mp q bs s u p (pad l) (updB ls 13) a (W.setCell ⟨m, 2, none⟩ (.slice (some ⟨Q, 0, none⟩) (bs.length + 1) cap))) := by
        show wJ _ _ _ _ _ _ _ _ _ _ _ _
        unfold wJ
        rw [updB_at, if_pos rfl]
        exact hfin
      clear hfin hown hk2 hcg hJ
      go_simp
      exact ⟨undef, rfl, trivial, HF.out⟩
  · intro a W ls hl2 hJ hoff hf
    have hfin : Fin12 V m mp q s u p (pad l) W := by
      unfold wJ at hJ
      rw [if_pos (hl2 13 (by decide))] at hJ
      exact hJ
    obtain ⟨q', bs', d1, d2, d3⟩ := hfin
    obtain ⟨ys, _, ha⟩ := off_form hoff (mask := [false, false, false, false, false, false, false, false, false, false, false, false, false, false, false, false, false, false, false, false, false, false, false, false, true, true, true, true, true, true, true, true, true, true, true, true, true, false, false]) (by kernel_rfl)
    have D1 := Lib.hid d1
    have D2 : Hid (Chg (RFoot m mp q) w W) := by
      have hVw : Chg (RFoot m mp q) w V := by rw [HV.out]; exact (Chg.refl _ _).drew
      exact hVw.trans d2 (fun _ _ h => h)
    have hsV : V.heap.size = w.heap.size := by rw [HV.out]; rfl
    have D3 : Hid (∀ k, q' = some k → q = some k ∨ w.heap.size ≤ k) := fun k hk => by
      rw [← hsV]
      exact d3 k hk
    clear hf hoff hl2 hJ d1 d2 d3 HV HRV HLV HBV HCV hsV
    subst ha
    simp only [fillFrom]
    go_wp2_with fail
    refine (change_any W m mp q' bs' _ _ D1.out).mono ?_
    rintro e w9 ⟨rfl, hd9, hc9⟩
    have H9 := Lib.hid hd9
    have HC9 := Lib.hid (D2.out.trans hc9 (rfoot_back D3.out))
    clear hd9 hc9
    go_wp2_with fail
    go_ret
    exact ⟨rfl, q', bs', H9.out, HC9.out, D3.out⟩

/-- the document's Write -/
theorem rwrite_any (w : World) (m mp : Nat) (q : Option Nat) (bs : List RB) (s : D) (u : Nat) (h : Rk w m mp q bs s u) (i : Int) (A0 : Option Addr) (n0 c0 : Nat) (l : List UInt8) (hl : Hold w A0 n0 c0 l) (hn : bs.length ≤ 1048576) :
    Calls Try.prog 21 #[.pointer (some ⟨m, 0, none⟩), .int .i64 i, .slice A0 n0 c0] w fun e w' => e = .returned (.int .i64 (s.wErr i n0)) ∧ RAfter w w' m mp q (s.wSt i l) u := by
  have hll := hl.1
  by_cases hr : s.refuse i = 0
  · by_cases h64 : n0 ≤ 64
    · refine (rwrite_done w m mp q bs s u h i A0 n0 c0 l hl hr h64 hn).mono ?_
      rintro e w' ⟨rfl, hA⟩
      exact ⟨by rw [wErr_zero hr h64], by rw [wSt_zero hr (by omega)]; exact hA⟩
    · have e1 := wErr_long (s := s) (n := n0) hr (by omega)
      have HF : Hid (RAfter w w m mp q (s.wSt i l) u) := by
        rw [wSt_long hr (by omega)]
        exact ⟨q, bs, h, Chg.refl _ _, fun _ h => .inl h⟩
      obtain ⟨hl0, h1, h2⟩ := refuse_zero hr
      obtain ⟨A, c, k, Dm, hm, _⟩ := h.form
      obtain ⟨b0, _, _, _, b4, _⟩ := five_cells hm
      have hd : decide (s.left = 0) = false := by simp [hl0]
      rw [hd] at b4
      have hp1 : ¬ i < 0 := by omega
      have hp2 : ¬ (s.last.length : Int) ≤ i := by omega
      have hn0' : (64 : Int) < (n0 : Int) := by omega
      rw [e1]
      clear h hl hr hm hd hll e1
      go_enter Try.func21, Try.ntmps21
      go_wp2_with fail
      go_ret
      exact ⟨rfl, HF.out⟩
  · have HF : Hid (RAfter w w m mp q (s.wSt i l) u) := by
      rw [wSt_ref hr]
      exact ⟨q, bs, h, Chg.refl _ _, fun _ h => .inl h⟩
    obtain ⟨A, c, k, Dm, hm, _⟩ := h.form
    obtain ⟨b0, _, _, _, b4, _⟩ := five_cells hm
    rw [wErr_ref hr]
    by_cases h0 : s.left = 0
    · have hrf : s.refuse i = 32 := by unfold D.refuse; rw [if_pos h0]
      have hd : decide (s.left = 0) = true := by simp [h0]
      rw [hd] at b4
      rw [hrf]
      clear h hl hr hm hd hll hrf
      go_enter Try.func21, Try.ntmps21
      go_wp2_with fail
      go_ret
      exact ⟨rfl, HF.out⟩
    · have hor : i < 0 ∨ (s.last.length : Int) ≤ i := by
        by_cases hor : i < 0 ∨ (s.last.length : Int) ≤ i
        · exact hor
        · exfalso; apply hr; unfold D.refuse; rw [if_neg h0, if_neg hor]
      have hrf : s.refuse i = 31 := by unfold D.refuse; rw [if_neg h0, if_pos hor]
      have hd : decide (s.left = 0) = false := by simp [h0]
      rw [hd] at b4
      rw [hrf]
      clear h hl hr hm hd hll hrf
      by_cases hi : i < 0
      · clear hor
        go_enter Try.func21, Try.ntmps21
        go_wp2_with fail
        go_ret
        exact ⟨rfl, HF.out⟩
      · have hi2 : (s.last.length : Int) ≤ i := by omega
        clear hor
        go_enter Try.func21, Try.ntmps21
        go_wp2_with fail
        go_ret
        exact ⟨rfl, HF.out⟩
end Go.Proofs.Ytkghjgpeobacjaa
