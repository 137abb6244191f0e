/-
  What is proved: a loop over a span's sectors goes through them one behind the other. Conditions: the span lies within 2^40 bytes; each round keeps what the loop's own book-keeping and the span's own copy lay.
-/
import Derived.Test.YtbfhlleipeipbaaRng
import Derived.Test.YtbfhlleipeipbaaOwn
namespace Go.Proofs.Ytbfhlleipeipbaa
open Go.RowKit Go.Shelf
section
attribute [local go_sem] Oper.semAt_some

def SecPost (N : Nat) (J : Nat → World → Prop) (Jx : World → Prop) (e : Ending) (W' : World) : Prop := (∃ v, e = .returned v) ∧ (J N W' ∨ Jx W')

set_option maxRecDepth 100000 in
set_option maxHeartbeats 1000000 in
theorem sectors_in (l B : Nat) (f t : Int) (k0 N : Nat) (hf0 : 0 ≤ f) (hf1 : f ≤ 1099511627776) (ht0 : 0 ≤ t) (ht1 : t ≤ 1099511627776) (hk0 : f / 64 = (k0 : Int)) (hN : ∀ k : Nat, k < N → ((k0 : Int) + k) * 64 < t) (hN' : t ≤ ((k0 : Int) + N) * 64) (hN1 : N ≤ 1099511627776)
    (J : Nat → World → Prop) (Jx : World → Prop) (hal : ∀ W o, J 0 W → J 0 (W.alloc o))
    (hY : ∀ (k : Nat) (W : World), k < N → J k W → YieldAt Fence.wide 0 Try.prog l #[.int .i64 ((k0 : Int) + k)] W fun e W' =>
      (e = .returned (.bool true) ∧ J (k + 1) W' ∧ Keeps B W W') ∨ (e = .returned (.bool false) ∧ Jx W'))
    (W : World) (hB : B ≤ W.heap.size) (h0 : J 0 W) :
    CallsIn Fence.wide 0 Try.prog 90 #[.agg #[.int .i64 f, .int .i64 t], .func (.yield l) #[] #[]] W (SecPost N J Jx) := by
  refine callsIn_of_wp Try.func90 rfl trivial ?_ rfl
  simp only [Try.ntmps90, List.size_toArray, List.length_cons, List.length_nil, Nat.reduceAdd, Nat.reduceSub, Array.replicate_succ, Array.replicate_zero, List.push_toArray, List.append_toArray, List.nil_append, List.cons_append]
  gi_wp2
  rw [hk0]
  have h1 := hal W (.cells #[.int .i64 f, .int .i64 t] 74) h0
  have hbx := heap_alloc_new W (.cells #[.int .i64 f, .int .i64 t] 74)
  clear h0
  gi_loopw [4] (fun i wr => ∃ k : Nat, k ≤ N ∧ i = .int .i64 ((k0 : Int) + k) ∧ J k wr ∧ wr.heap[W.heap.size]? = some (.cells #[.int .i64 f, .int .i64 t] 74 (0, 0))) (fun i _ => ((k0 : Int) + N - intOf i).toNat)
  case atStart => exact ⟨0, Nat.zero_le _, by simp, h1, hbx⟩
  case round =>
    obtain ⟨k, hk, rfl, hJ, hbx⟩ := hrel
    have c1 : wr.cell? ⟨W.heap.size, 1, none⟩ = some (.int .i64 t) := by rw [cell_of_row wr W.heap.size 1 _ 74 (0, 0) hbx]; rfl
    have HB := Lib.hid hbx
    clear hbx h1
    have hk0' : (k0 : Int) ≤ 17179869184 := by omega
    have hk1 : (k : Int) ≤ 1099511627776 := by omega
    by_cases hlt : k < N
    · have hlo := hN k hlt
      clear hN hN'
      obtain ⟨fn, tmps, assign, body, hy, hR⟩ := hY k wr hlt hJ
      gi_wp2
      refine ⟨rfl, hR.mono ?_⟩
      rintro e W3 (⟨rfl, hJ3, hk3⟩ | ⟨rfl, hJx3⟩)
      · have hb3 := hk3.2 _ _ hB HB.out (.inr ⟨_, _, rfl⟩)
        have H3 := Lib.hid hb3
        clear hb3
        gi_wp2
        go_roundw
        case rel => exact ⟨k + 1, by omega, by go_num, hJ3, H3.out⟩
        case measure => simp [intOf]; omega
      · gi_wp2
        refine bodyPost_ret (results_none rfl _ _ _) rfl ?_
        exact ⟨⟨_, rfl⟩, .inr hJx3⟩
    · obtain rfl : k = N := by omega
      have hge : ¬ ((k0 : Int) + k) * 64 < t := by omega
      clear hN
      gi_wp2
      go_end0
      exact ⟨⟨_, rfl⟩, .inl hJ⟩
end

/-- how a round may end -/
def Round (B : Nat) (I : Nat → World → Prop) (Ix : World → Prop) (k : Nat) (W : World) : Exit → Act → World → Prop
  | .normal, _, W' => I (k + 1) W' ∧ Keeps B W W'
  | .ret, _, W' => Ix W' ∧ Keeps B W W'
  | _, _, _ => False
/-- the mark that such a loop leaves -/
def marked (a : Act) (D : Nat) : Act := { a with defers := { target := .collected D, args := #[] } :: a.defers }

set_option maxHeartbeats 1000000 in
theorem wp_sectors {p : Tmp} {g : Operand} {assign body : Code} {Q : Exit → Act → World → Prop} {a : Act} {w : World} (f t : Int) (k0 N : Nat) (hg : a.eval g = .func (.func 90) #[.agg #[.int .i64 f, .int .i64 t]] #[])
    (hf0 : 0 ≤ f) (hf1 : f ≤ 1099511627776) (ht0 : 0 ≤ t) (ht1 : t ≤ 1099511627776) (hk0 : f / 64 = (k0 : Int)) (hN : ∀ k : Nat, k < N → ((k0 : Int) + k) * 64 < t) (hN' : t ≤ ((k0 : Int) + N) * 64) (hN1 : N ≤ 1099511627776)
    (I : Nat → World → Prop) (Ix : World → Prop) (hI : ∀ k W W', I k W → Calm w.heap.size W W' → I k W') (hIx : ∀ W W', Ix W → Calm w.heap.size W W' → Ix W') (h0 : I 0 w) (a₁ : Nat → Act)
    (hassign : ∀ (l k : Nat) (W : World) (K : Act → World → Prop), K (a₁ k) W → assign.wpIn (Fence.wide.inRound l) 0 Try.prog (Exit.then K (fun _ _ _ => False)) { tmps := a.tmps.setIfInBounds p (.int .i64 ((k0 : Int) + k)), defers := [] } W)
    (hbody : ∀ (l k : Nat) (W : World), k < N → I k W → w.heap.size ≤ W.heap.size → body.wpIn (Fence.wide.inRound l) 0 Try.prog (Round w.heap.size I Ix k W) (a₁ k) W)
    (hdone : ∀ (D : Nat) (W : World), w.heap.size ≤ D → I N W → W.heap[D]? = some (.deferred (some [])) → Q .normal (marked a D) W)
    (hstop : ∀ (D : Nat) (W : World), w.heap.size ≤ D → Ix W → W.heap[D]? = some (.deferred (some [])) → Q .ret (marked a D) W) :
    (Code.rangeFunc g #[p] assign body).wp Try.prog Q a w := by
  refine (wpIn_wide (n := 0)).1 (wpIn_rangeFunc ?_)
  intro fn _
  obtain ⟨rc, hrc⟩ : ∃ rc : LoopState → Option Code → Loop, rc = fun st pe => { state := st, pending := pe, fn, tmps := a.tmps, params := #[p], assign, body, defers := w.heap.size } := ⟨_, rfl⟩
  obtain ⟨W1, hW1⟩ : ∃ W1, W1 = (w.alloc (.deferred (some []))).alloc (.loop (rc .ready none)) := ⟨_, rfl⟩
  have hl1 : W1.heap[w.heap.size + 1]? = some (.loop (rc .ready none)) := by
    rw [hW1]; exact heap_at _ _ _ (by simp)
  have hd1 : W1.heap[w.heap.size]? = some (.deferred (some [])) := by
    rw [hW1, Below.heap_alloc _ _ _ (by simp)]; exact heap_at _ _ _ rfl
  have hi1 : I 0 W1 := by rw [hW1]; exact hI _ _ _ (hI _ _ _ h0 (Calm.alloc _ _ _)) (Calm.alloc _ _ _)
  have hz1 : w.heap.size ≤ W1.heap.size := by rw [hW1]; simp; omega
  refine ⟨w.heap.size + 1, [{ target := .collected w.heap.size, args := #[] }], W1, { target := .fn (.func 90) #[], args := #[.agg #[.int .i64 f, .int .i64 t], .func (.yield (w.heap.size + 1)) #[] #[]] }, W1, 90,
    #[.agg #[.int .i64 f, .int .i64 t], .func (.yield (w.heap.size + 1)) #[] #[]], W1, ?_, ?_, fun _ _ => trivial, ?_, fun h => (by simp [Fence.wide] at h), ?_⟩
  · rw [hW1, hrc]
    exact run_enterLoop_outer _ _ _ _ _
  · simp only [resolve, hg]
    simp [go_sem]
  · simp [invoke, go_sem]
  · refine (sectors_in (w.heap.size + 1) w.heap.size f t k0 N hf0 hf1 ht0 ht1 hk0 hN hN' hN1
      (fun k W => I k W ∧ W.heap[w.heap.size + 1]? = some (.loop (rc .ready none)) ∧ W.heap[w.heap.size]? = some (.deferred (some [])))
      (fun W => Ix W ∧ W.heap[w.heap.size + 1]? = some (.loop (rc .done (some .ret))) ∧ W.heap[w.heap.size]? = some (.deferred (some [])))
      ?_ ?_ W1 hz1 ⟨hi1, hl1, hd1⟩).mono ?_
    · rintro W o ⟨h1, h2, h3⟩
      exact ⟨hI _ _ _ h1 (Calm.alloc _ _ _), (Below.heap_alloc _ _ _ (Array.getElem?_eq_some_iff.1 h2).1).trans h2, (Below.heap_alloc _ _ _ (Array.getElem?_eq_some_iff.1 h3).1).trans h3⟩
    · rintro k W hk ⟨h1, h2, h3⟩
      have hlt : w.heap.size + 1 < W.heap.size := (Array.getElem?_eq_some_iff.1 h2).1
      have hy := run_yield (P := Try.prog) (args := #[.int .i64 ((k0 : Int) + k)]) h2 (by rw [hrc]; rfl)
      rw [hrc] at hy
      refine ⟨fn, _, assign, body, hy, roundIn_of_wpIn trivial ?_⟩
      have hz : (Array.foldl (fun (tmps : Array Value) (x : Tmp × Value) => tmps.setIfInBounds x.1 x.2) a.tmps ((#[p] : Array Tmp).zip #[Value.int .i64 ((k0 : Int) + k)])) = a.tmps.setIfInBounds p (.int .i64 ((k0 : Int) + k)) := by simp
      have hs := hassign (w.heap.size + 1) k W
      rw [← hz] at hs
      refine hs _ ?_
      refine ⟨_, run_beginRound h2 (by rw [hrc]), ?_⟩
      obtain ⟨W2, hW2⟩ : ∃ W2, W2 = W.putObj (w.heap.size + 1) (.loop { rc .ready none with state := .busy }) := ⟨_, rfl⟩
      rw [← hW2]
      have l2 : W2.heap[w.heap.size + 1]? = some (.loop { rc .ready none with state := .busy }) := by rw [hW2]; exact World.putObj_heap_same hlt
      have d2 : W2.heap[w.heap.size]? = some (.deferred (some [])) := by rw [hW2]; exact (World.putObj_heap_other (by omega)).trans h3
      have c2 : Calm w.heap.size W W2 := by rw [hW2]; exact Calm.put _ h2 rfl (by omega)
      have k2 : ∀ (b : Nat) (o : Obj), W.heap[b]? = some o → (o.isCells = false ∨ ∃ C fr, o = .cells C 74 fr) → b ≠ w.heap.size + 1 → W2.heap[b]? = some o := fun b o hb _ hne => by
        rw [hW2]; exact (World.putObj_heap_other hne).trans hb
      refine wpIn_mono (hbody _ k W2 hk (hI _ _ _ h1 c2) (by have := c2.size; omega)) ?_
      rintro e a3 W3 hp
      cases e with
      | normal =>
        obtain ⟨hi3, hk3⟩ := hp
        have l3 := hk3.2 _ _ (by omega) l2 (.inl rfl)
        have d3 := hk3.2 _ _ (Nat.le_refl _) d2 (.inl rfl)
        have hr := run_endRound (P := Try.prog) none l3
        have l4 : (W3.putObj (w.heap.size + 1) (.loop (rc .ready none))).heap[w.heap.size + 1]? = some (.loop (rc .ready none)) := World.putObj_heap_same (Array.getElem?_eq_some_iff.1 l3).1
        refine ⟨_, _, hr, .inl ⟨rfl, ⟨hI _ _ _ hi3 (Calm.put _ l3 rfl (by omega)), ?_, (World.putObj_heap_other (by omega)).trans d3⟩, ?_, ?_⟩⟩
        · rw [hrc] at l4 ⊢
          exact l4
        · have := c2.size
          have := hk3.1
          simp only [World.putObj_size]
          omega
        · intro b o hB hb ho
          by_cases hne : b = w.heap.size + 1
          · subst hne
            rw [h2] at hb
            injection hb with hb
            subst hb
            rw [hrc] at l4 ⊢
            exact l4
          · exact (World.putObj_heap_other hne).trans (hk3.2 b o hB (k2 b o hb ho hne) ho)
      | ret =>
        obtain ⟨hi3, hk3⟩ := hp
        have l3 := hk3.2 _ _ (by omega) l2 (.inl rfl)
        have d3 := hk3.2 _ _ (Nat.le_refl _) d2 (.inl rfl)
        have hr := run_endRound (P := Try.prog) (some .ret) l3
        refine ⟨_, _, hr, .inr ⟨rfl, hIx _ _ hi3 (Calm.put _ l3 rfl (by omega)), ?_, (World.putObj_heap_other (by omega)).trans d3⟩⟩
        rw [hrc]
        rw [hrc] at l3
        exact World.putObj_heap_same (Array.getElem?_eq_some_iff.1 l3).1
      | exit id => exact hp.elim
      | goto t => exact hp.elim
      | panic c => exact hp.elim
      | outgrown => exact hp.elim
    · rintro e W2 ⟨⟨v, rfl⟩, (⟨h1, h2, h3⟩ | ⟨h1, h2, h3⟩)⟩
      · have hr := run_endLoop (P := Try.prog) h2 (by rw [hrc]; simp)
        have hp : (rc .ready none).pending = none := by rw [hrc]
        rw [hp] at hr
        exact ⟨none, _, hr, hdone w.heap.size _ (Nat.le_refl _) (hI _ _ _ h1 (Calm.put _ h2 rfl (by omega))) ((World.putObj_heap_other (by omega)).trans h3)⟩
      · have hr := run_endLoop (P := Try.prog) h2 (by rw [hrc]; simp)
        have hp : (rc .done (some .ret)).pending = some .ret := by rw [hrc]
        rw [hp] at hr
        exact ⟨some .ret, _, hr, wpIn_ret (hstop w.heap.size _ (Nat.le_refl _) (hIx _ _ h1 (Calm.put _ h2 rfl (by omega))) ((World.putObj_heap_other (by omega)).trans h3))⟩
end Go.Proofs.Ytbfhlleipeipbaa
