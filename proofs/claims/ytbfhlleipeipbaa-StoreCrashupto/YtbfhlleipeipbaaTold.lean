/-
  What is proved: what told and Read answer, told by the disk as lists.
-/
import Derived.Test.YtbfhlleipeipbaaFns
import Derived.Deep.WholeRow
namespace Go.Proofs.Ytbfhlleipeipbaa
open Go.RowKit

theorem Try.size64 : (Try.prog.info? 88).map (·.size) = some 64 := by kernel_rfl
theorem size64_of {cs : List Value} (h : cs.length = 64) : (Try.prog.info? 88).map (·.size) = some cs.length := by rw [Try.size64, h]

/-- the k-th sector's cells -/
theorem sec_range {w : World} {L cap : Nat} {last : List (List UInt8)} (h : w.ownsRow 0 88 64 (.slice (some ⟨L, 0, none⟩) last.length cap) last.length (secV last)) (hs : ∀ l ∈ last, l.length = 64) {k : Nat} (hk : k < last.length) :
    w.rangeAt L (k * 64) (bv last[k]) := by
  refine own_range h _ _ fun j v hv => ?_
  have hj : j < 64 := by
    have := (List.getElem?_eq_some_iff.1 hv).1
    rw [bv_length, hs _ (List.getElem_mem hk)] at this
    exact this
  unfold secV
  rw [flat_get 64 _ (sec_each hs) k j (by simpa using hk) hj]
  simpa using hv
/-- the k-th write's cells -/
theorem buf_range {w : World} {Q c n : Nat} {b : List (Nat × List UInt8)} (h : w.ownsRow 0 90 65 (.slice (some ⟨Q, 0, none⟩) n c) n (bufV b)) (hs : ∀ p ∈ b, p.2.length = 64) {k : Nat} (hk : k < b.length) :
    w.rangeAt Q (k * 65) (wV b[k]) := by
  refine own_range h _ _ fun j v hv => ?_
  have hj : j < 65 := by
    have := (List.getElem?_eq_some_iff.1 hv).1
    simp only [wV, List.length_cons, bv_length, hs _ (List.getElem_mem hk)] at this
    exact this
  unfold bufV
  rw [flat_get 65 _ (buf_each hs) k j (by simpa using hk) hj]
  simpa using hv
theorem buf_place {w : World} {Q o : Nat} {p : Nat × List UInt8} (h : w.rangeAt Q o (wV p)) : w.cell? ⟨Q, o, none⟩ = some (.int .i64 (p.1 : Int)) := h 0 _ rfl
theorem buf_bytes {w : World} {Q o : Nat} {p : Nat × List UInt8} (h : w.rangeAt Q o (wV p)) : w.rangeAt Q (o + 1) (bv p.2) := fun j v hv => by
  have := h (j + 1) v (by simpa [wV] using hv)
  rwa [show o + (j + 1) = o + 1 + j by omega] at this
theorem own_some {w : World} {A : Option Addr} {n c : Nat} {xs : List Value} {e : TypeId} {z : Nat} (h : w.ownsRow 0 e z (.slice A n c) n xs) (hn : 0 < n) : ∃ Q, A = some ⟨Q, 0, none⟩ := by
  rcases h.2 with ⟨_, h0⟩ | ⟨g, cap, cur, hv, _⟩
  · omega
  · injection hv with h1
    exact ⟨g, h1⟩
theorem told_step {s : D} {i k : Nat} (hk : k < s.buf.length) (ht : s.told i = (settle s.last (s.buf.take (k + 1)))[i]?.getD []) (hi : i < s.last.length) :
    (s.buf[k].1 = i → s.told i = s.buf[k].2) ∧ (s.buf[k].1 ≠ i → s.told i = (settle s.last (s.buf.take k))[i]?.getD []) := by
  rw [settle_take _ _ _ hk] at ht
  refine ⟨fun e => ?_, fun e => ?_⟩
  · rw [ht, e]
    simp [settle_length, hi]
  · rw [ht, List.getElem?_set_ne e]

/-- a new variable: the world behind it is a letter -/
theorem wpList_alloc_new {P : Program} {w : World} {ops : Array Oper} {rest : List Oper} {o : Oper} {a : Act} {Q : Exit → Act → World → Prop} (hgd : o.guard = none) (t : TypeId) (ho : o.op = .alloc t) (cs : Array Value)
    (hz : ∀ w, (zeroValue t).run P w = .ok (.agg cs) w) (h : ∀ W, Hid (W = w.alloc (.cells cs t)) → wpList P ops Q rest (a.put o.dst (.pointer (some ⟨w.heap.size, 0, none⟩))) W) : wpList P ops Q (o :: rest) a w := by
  refine wpList_plain hgd fun K hK => ?_
  unfold Oper.wp
  simp [execOp, ho, Instr.alloc, newVar, newRow, hz, Value.cells, Result.andThen]
  exact hK _ _ (h _ rfl)
theorem Try.zero64 : ∃ Z : Array Value, (∀ w, (zeroValue 88).run Try.prog w = .ok (.agg Z) w) ∧ Z = (bv zer).toArray := ⟨_, zero_of_info (n := 64) (by kernel_rfl) |>.1, rfl⟩


/-- what is known behind the first variable -/
theorem told_facts {w W : World} {g L : Nat} {q : Option Nat} {s : D} {cs : Array Value} (h : Dk w g L q s) (hW : W = w.alloc (.cells cs 88)) : ∃ cap A c, W.cell? ⟨g, 0, none⟩ = some (.slice (some ⟨L, 0, none⟩) s.last.length cap) ∧ W.cell? ⟨g, 1, none⟩ = some (.slice A s.buf.length c) ∧
    Hid (W.ownsRow 0 88 64 (.slice (some ⟨L, 0, none⟩) s.last.length cap) s.last.length (secV s.last)) ∧ Hid (W.ownsRow 0 90 65 (.slice A s.buf.length c) s.buf.length (bufV s.buf)) ∧ Hid (Below w.heap.size w W) ∧ Hid (W.heap[w.heap.size]? = some (.cells cs 88 (0, 0))) := by
  subst hW
  obtain ⟨cap, A, c, hg, hL, hB, _⟩ := (h.alloc (.cells cs 88)).form
  obtain ⟨c0, c1, _, _⟩ := box_cells hg
  exact ⟨cap, A, c, c0, c1, hL, hB, (Below.refl _ _).alloc (Nat.le_refl _) _, heap_alloc_new w _⟩
/-- the result's cell is filled -/
theorem told_end {w W : World} {cs cs' : Array Value} (hb : Below w.heap.size w W) (hr : W.heap[w.heap.size]? = some (.cells cs 88 (0, 0))) : (W.setRow w.heap.size cs').heap[w.heap.size]? = some (.cells cs' 88 (0, 0)) ∧ Below w.heap.size w (W.setRow w.heap.size cs') :=
  ⟨setRow_heap W _ _ _ _ _ hr, below_setRow hb (Nat.le_refl _) _⟩

set_option maxRecDepth 100000 in
set_option maxHeartbeats 800000 in
theorem told_any (w : World) (g L : Nat) (q : Option Nat) (s : D) (h : Dk w g L q s) (i : Nat) (hi : i < s.last.length) (hn : s.buf.length ≤ 4611686018427387904) : Calls Try.prog 64 #[.pointer (some ⟨g, 0, none⟩), .int .i64 i] w fun e w' => e = .returned (.agg (bv (s.told i)).toArray) ∧ Below w.heap.size w w' := by
  have H := Lib.hid h
  have hsec := Lib.hid h.ok.sec
  have hwr := Lib.hid (fun p hp => (h.ok.wr p hp).2)
  have htl := Lib.hid (h.ok.told_len hi)
  clear h
  obtain ⟨Z, hZ, hZs'⟩ := Try.zero64
  have hZs : Z.size = 64 := by rw [hZs']; rfl
  clear hZs'
  go_enter Try.func64, Try.ntmps64
  go_wp2_with (with_reducible refine wpList_alloc_new rfl 88 rfl Z hZ ?_; intro W hW; obtain ⟨cap, A, c, c0, c1, HL, HB, Hb, Hr⟩ := told_facts H.out hW.out; clear hW hZ)
  go_loop [5] (fun t => ∃ k : Nat, k ≤ s.buf.length ∧ t = .int .i64 ((k : Int) - 1) ∧ s.told i = (settle s.last (s.buf.take k))[i]?.getD []) (fun t => (intOf t + 1).toNat)
  case atStart => exact ⟨s.buf.length, Nat.le_refl _, rfl, by rw [List.take_length]; rfl⟩
  case round =>
    obtain ⟨k, hk, rfl, ht⟩ := hrel
    have HT := Lib.hid ht
    clear ht
    cases k with
    | zero =>
      have hr : W.rangeAt L (i * 64) (bv (s.told i)) := by
        have h1 := sec_range HL.out hsec.out hi
        have h2 := HT.out
        rw [List.take_zero] at h2
        rw [h2]
        simpa [settle, hi] using h1
      have HR := Lib.hid hr
      clear hr HT
      have htl' := htl.out
      generalize hgx : s.told i = x at *
      have HGX := Lib.hid hgx
      clear hgx
      have hi64 : (Try.prog.info? 88).map (·.size) = some (bv x).length := size64_of (by rw [bv_length]; exact htl')
      have hi64' : (Try.prog.info? 88).map (·.size) = some (bv x).toArray.size := by simpa using hi64
      have HI := Lib.hid hi64
      have HI' := Lib.hid hi64'
      have hzx : Z.size = (bv x).toArray.size := by rw [hZs]; simp [bv_length, htl']
      have HZX := Lib.hid hzx
      have H1 := Lib.hid (all_oneCell_toArray (bv_one x))
      clear hi64 hi64' hzx htl' htl hZs
      have hi0 : (0 : Int) ≤ (i : Int) := Int.natCast_nonneg _
      have hi1 : (i : Int) < (s.last.length : Int) := by omega
      go_wp2_with (first
        | (with_reducible refine wpList_load_mid rfl 88 (.tmp 39) rfl L (i * 64) rfl (bv x) _ HR.out Try.underlying88 rfl HI.out ?_)
        | (with_reducible refine wpList_store_row rfl 88 (.tmp 4) (.tmp 40) rfl w.heap.size (bv x).toArray rfl rfl 88 Z Hr.out HI'.out HZX.out H1.out ?_))
      obtain ⟨e1, e2⟩ := told_end (cs' := (bv x).toArray) Hb.out Hr.out
      exact bodyPost_ret (results_cell_row rfl _ _ w.heap.size 88 (bv x).toArray (0, 0) _ rfl e1 Try.underlying88 rfl HI'.out) rfl ⟨by rw [HGX.out], e2⟩
    | succ k =>
      have hkl : k < s.buf.length := by omega
      obtain ⟨Q, rfl⟩ := own_some HB.out (by omega)
      have hrg := buf_range HB.out hwr.out hkl
      have hpl := buf_place hrg
      have HR := Lib.hid (buf_bytes hrg)
      clear hrg
      have HS := Lib.hid (told_step hkl HT.out hi)
      clear HT
      have hk0 : (0 : Int) ≤ (k : Int) := Int.natCast_nonneg _
      have hk1 : (k : Int) < (s.buf.length : Int) := by omega
      have hke : ((k + 1 : Nat) : Int) - 1 = (k : Int) := by omega
      rw [hke]
      by_cases hp : s.buf[k].1 = i
      · have hpd : ((s.buf[k].1 : Nat) : Int) = (i : Int) := by omega
        have hx := HS.out.1 hp
        rw [← hx] at HR
        rw [hpd] at hpl
        have htl' := htl.out
        clear HS hx hp hpd
        generalize hgx : s.told i = x at *
        have HGX := Lib.hid hgx
        clear hgx
        have hi64 : (Try.prog.info? 88).map (·.size) = some (bv x).length := size64_of (by rw [bv_length]; exact htl')
        have hi64' : (Try.prog.info? 88).map (·.size) = some (bv x).toArray.size := by simpa using hi64
        have HI := Lib.hid hi64
        have HI' := Lib.hid hi64'
        have hzx : Z.size = (bv x).toArray.size := by rw [hZs]; simp [bv_length, htl']
        have HZX := Lib.hid hzx
        have H1 := Lib.hid (all_oneCell_toArray (bv_one x))
        clear hi64 hi64' hzx htl' htl hZs
        go_wp2_with (first
          | (with_reducible refine wpList_load_mid rfl 88 (.tmp 32) rfl Q (k * 65 + 1) rfl (bv x) _ HR.out Try.underlying88 rfl HI.out ?_)
          | (with_reducible refine wpList_store_row rfl 88 (.tmp 4) (.tmp 33) rfl w.heap.size (bv x).toArray rfl rfl 88 Z Hr.out HI'.out HZX.out H1.out ?_))
        obtain ⟨e1, e2⟩ := told_end (cs' := (bv x).toArray) Hb.out Hr.out
        exact bodyPost_ret (results_cell_row rfl _ _ w.heap.size 88 (bv x).toArray (0, 0) _ rfl e1 Try.underlying88 rfl HI'.out) rfl ⟨by rw [HGX.out], e2⟩
      · have hpd : ¬ ((s.buf[k].1 : Nat) : Int) = (i : Int) := by omega
        have HS2 := Lib.hid (HS.out.2 hp)
        clear HS hp
        generalize s.buf[k].1 = y at *
        go_wp2_with fail
        go_round
        case rel => exact ⟨k, by omega, by go_num, HS2.out⟩
        case measure => simp [intOf]

/-- what Read answers -/
def ReadPost (w : World) (s : D) (i : Int) (e : Ending) (w' : World) : Prop :=
  if s.refuse i = 0 then ∃ k, e = .returned (.tuple #[.slice (some ⟨k, 0, none⟩) 64 64, .int .i64 0]) ∧ w.heap.size ≤ k ∧ w'.heap[k]? = some (.cells (bv (s.told i.toNat)).toArray 88 (0, 0)) ∧ Below w.heap.size w w'
  else e = .returned (.tuple #[.slice none 0 0, .int .i64 (s.refuse i)]) ∧ w' = w
theorem refuse_zero {s : D} {i : Int} (h : s.refuse i = 0) : s.left ≠ 0 ∧ 0 ≤ i ∧ i < s.last.length := by
  unfold D.refuse at h
  by_cases h0 : s.left = 0
  · simp [h0] at h
  · by_cases hr : i < 0 ∨ (s.last.length : Int) ≤ i
    · simp [h0, hr] at h
    · omega
/-- a new variable is filled at once -/
theorem new_filled {w W : World} {cs : Array Value} {t : TypeId} (hW : W = w.alloc (.cells cs t)) : W.heap[w.heap.size]? = some (.cells cs t (0, 0)) ∧ Below w.heap.size w W := by
  subst hW
  exact ⟨heap_alloc_new w _, (Below.refl _ _).alloc (Nat.le_refl _) _⟩

set_option maxRecDepth 100000 in
set_option maxHeartbeats 800000 in
theorem read_any (w : World) (g L : Nat) (q : Option Nat) (s : D) (h : Dk w g L q s) (i : Int) (hn : s.buf.length ≤ 4611686018427387904) : Calls Try.prog 43 #[.pointer (some ⟨g, 0, none⟩), .int .i64 i] w (ReadPost w s i) := by
  have HR := Lib.hid (refusal_any w g L q s h i)
  by_cases h0 : s.refuse i = 0
  · obtain ⟨_, h1, h2⟩ := refuse_zero h0
    obtain ⟨m, rfl⟩ := Int.eq_ofNat_of_zero_le h1
    have hm : m < s.last.length := by omega
    have HT := Lib.hid (told_any w g L q s h m hm hn)
    have htl := Lib.hid (h.ok.told_len hm)
    have fin : ∀ k w', w.heap.size ≤ k → w'.heap[k]? = some (.cells (bv (s.told m)).toArray 88 (0, 0)) → Below w.heap.size w w' → ReadPost w s m (.returned (.tuple #[.slice (some ⟨k, 0, none⟩) 64 64, .int .i64 0])) w' := fun k w' a b c => by
      unfold ReadPost
      rw [if_pos h0]
      exact ⟨k, rfl, a, b, c⟩
    have HF := Lib.hid fin
    rw [h0] at HR
    clear h fin h0 h1 h2 hm hn
    obtain ⟨Z, hZ, hZs'⟩ := Try.zero64
    have hZs : Z.size = 64 := by rw [hZs']; rfl
    clear hZs'
    go_enter Try.func43, Try.ntmps43
    go_wp2_with fail
    refine HR.out.mono ?_
    rintro e w1 ⟨rfl, rfl⟩
    go_wp2_with fail
    refine HT.out.mono ?_
    rintro e w2 ⟨rfl, hb2⟩
    have htl' := htl.out
    generalize s.told m = x at *
    have hi64 : (Try.prog.info? 88).map (·.size) = some (bv x).toArray.size := by simpa using size64_of (cs := bv x) (by rw [bv_length]; exact htl')
    have HI := Lib.hid hi64
    have hzx : Z.size = (bv x).toArray.size := by rw [hZs]; simp [bv_length, htl']
    have HZX := Lib.hid hzx
    have H1 := Lib.hid (all_oneCell_toArray (bv_one x))
    have HB := Lib.hid hb2
    clear hi64 hzx htl' htl hZs HT HR hb2
    go_wp2_with (first
      | (with_reducible refine wpList_alloc_new rfl 88 rfl Z hZ ?_; intro W hW; obtain ⟨g1, g2⟩ := new_filled hW.out; have G1 := Lib.hid g1; have G2 := Lib.hid g2; clear g1 g2 hW)
      | (with_reducible refine wpList_store_row rfl 88 (.tmp 7) (.tmp 16) rfl w2.heap.size (bv x).toArray rfl rfl 88 Z G1.out HI.out HZX.out H1.out ?_))
    go_ret2
    obtain ⟨e1, e2⟩ := told_end (cs' := (bv x).toArray) G2.out G1.out
    exact HF.out _ _ HB.out.size e1 (HB.out.trans (e2.mono HB.out.size))
  · have fin : ReadPost w s i (.returned (.tuple #[.slice none 0 0, .int .i64 (s.refuse i)])) w := by
      unfold ReadPost
      rw [if_neg h0]
      exact ⟨rfl, rfl⟩
    have HF := Lib.hid fin
    clear h fin
    generalize s.refuse i = r at *
    go_enter Try.func43, Try.ntmps43
    go_wp2_with fail
    refine HR.out.mono ?_
    rintro e w1 ⟨rfl, rfl⟩
    go_wp2_with fail
    go_ret2
    exact HF.out
end Go.Proofs.Ytbfhlleipeipbaa
