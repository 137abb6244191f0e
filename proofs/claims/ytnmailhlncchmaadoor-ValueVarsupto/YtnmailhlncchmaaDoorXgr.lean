/-
  What is proved: slices.Insert of one variable within a row that has no room; Insert wherever (insert_any); value's With, whatever it is called with (with_any). Conditions: those in each statement.
-/
import Derived.Test.YtnmailhlncchmaaDoorXins
namespace Go.Proofs.YtnmailhlncchmaaDoor
open Go.RowKit Go.Lib

set_option maxHeartbeats 16000000 in
set_option maxRecDepth 100000 in
theorem insert_grow (l : List Vr) (p : Nat) (x : Vr) (hp : p < l.length) (hl : l.length ≤ 1048576) (W : World) (B g : Nat) (h : OwR W B (some ⟨g, 0, none⟩) l.length l.length l) (hB : B ≤ W.heap.size) :
    Calls Tryd.prog 40 #[.slice (some ⟨g, 0, none⟩) l.length l.length, .int .i64 (p : Int), .slice (some ⟨W.heap.size, 0, none⟩) 1 1] (W.alloc (.cells #[.string x.nm, .int .i64 x.v.k, .int .i64 x.v.n, .string x.v.s] 42 (0, 0))) (InsPost W B l p x) := by
  obtain ⟨g', e, hgB, hgl, _⟩ := h.place (by omega)
  cases e
  obtain ⟨cur, hg, hn1, hn2, hcs, htk⟩ := own_block (own_un h)
  have hLen : (rwV (l.drop p)).length = (l.length - p) * 4 := by rw [rwV_length, List.length_drop]
  have hal : (rwV (l.take p)).length = p * 4 := by rw [rwV_length, List.length_take]; omega
  obtain ⟨i0, hi, hz0, hz1, hz2⟩ := info42'
  obtain ⟨W1, hW1⟩ : ∃ W1, W1 = W.alloc (.cells #[.string x.nm, .int .i64 x.v.k, .int .i64 x.v.n, .string x.v.s] 42 (0, 0)) := ⟨_, rfl⟩
  rw [← hW1]
  have hg1 : W1.heap[g]? = some (.cells cur 42 (0, 0)) := by rw [hW1, Lib.alloc_old W _ g hgl]; exact hg
  have hv1 : W1.heap[W.heap.size]? = some (.cells #[.string x.nm, .int .i64 x.v.k, .int .i64 x.v.n, .string x.v.s] 42 (0, 0)) := by rw [hW1]; exact heap_at _ _ _ rfl
  have hB1 : Below B W W1 := by rw [hW1]; exact (Below.refl _ _).alloc hB _
  have hsz1 : W1.heap.size = W.heap.size + 1 := by rw [hW1]; simp
  have hrow : ∀ (V : World), V.heap[g]? = W1.heap[g]? → ∀ (o : Nat) (xs : List Value), (∀ j v, xs[j]? = some v → (rwV l)[o + j]? = some v) → ∀ j v, xs[j]? = some v → V.cell? ((⟨g, o, none⟩ : Addr).add j) = some v := fun V hV o xs hx j v hj => by
    rw [Addr.add_lit, cell_of_row V g (o + j) cur 42 (0, 0) (by rw [hV]; exact hg1)]
    have := hx j v hj
    rw [← htk, List.getElem?_take] at this
    split at this
    · simpa using this
    · cases this
  have hold : (Builtin.firstCells i0.size p (.slice (some ⟨g, 0, none⟩) p l.length)).run Tryd.prog W1.drew = .ok (rwV (l.take p)).toArray W1.drew := by
    rw [hz1]
    exact run_firstCells_some (w := W1.drew) 4 p ⟨g, 0, none⟩ p l.length (rwV (l.take p)) hal (hrow W1.drew rfl 0 _ (fun j v hj => by
      rw [Nat.zero_add]
      rw [← rwV_take, List.getElem?_take] at hj
      split at hj
      · exact hj
      · cases hj))
  obtain ⟨G, hG⟩ : ∃ G, G = grownCap W1 (l.length + 1) l.length 42 := ⟨_, rfl⟩
  have hGn : l.length + 1 ≤ G := by rw [hG]; exact grownCap_ge W1 _ _ _
  have hGm : G ≤ maxLen := by rw [hG]; exact grownCap_le_maxLen W1 _ _ _ (by unfold maxLen; omega)
  obtain ⟨ROW, hROW⟩ : ∃ ROW : Array Value, ROW = (rwV (l.take p)).toArray ++ Builtin.zeroCells (Value.agg #[.string ⟨#[]⟩, .int .i64 0, .int .i64 0, .string ⟨#[]⟩]).cells (l.length + 1 - p) ++ Builtin.zeroCells (Value.agg #[.string ⟨#[]⟩, .int .i64 0, .int .i64 0, .string ⟨#[]⟩]).cells (G - (l.length + 1)) := ⟨_, rfl⟩
  have hRl : ROW.size = G * 4 := by
    rw [hROW, Array.size_append, Array.size_append, size_zeroCells, size_zeroCells]
    have e4 : (Value.agg #[.string ⟨#[]⟩, .int .i64 0, .int .i64 0, .string ⟨#[]⟩]).cells.size = 4 := rfl
    rw [e4, List.size_toArray, hal]
    omega
  have hRt : ROW.toList.take (p * 4) = rwV (l.take p) := by
    rw [hROW, Array.toList_append, Array.toList_append, List.append_assoc, List.take_append_of_le_length (by simp [hal]), List.take_of_length_le (by simp [hal])]
  obtain ⟨W2, hW2⟩ : ∃ W2, W2 = W1.drew.alloc (.cells ROW 42) := ⟨_, rfl⟩
  have hik : p + (l.length + 1 - p) = l.length + 1 := by omega
  have hkk : (l.length : Int) + 1 - (p : Int) = ((l.length + 1 - p : Nat) : Int) := by omega
  have hrz : ∀ ty, (Builtin.append_ #[33, 3] ty #[.slice (some ⟨g, 0, none⟩) p l.length, .int .i64 ((l.length : Int) + 1 - (p : Int))]).run Tryd.prog W1 = .ok (.slice (some ⟨W1.heap.size, 0, none⟩) (l.length + 1) G) W2 := fun ty => by
    have h := Lib.run_append_grow_zeros W1 33 3 ty 42 i0 _ .i64 .i64 Tryd.underlying33 Tryd.underlying3 hi hz0 (some ⟨g, 0, none⟩) p l.length (rwV (l.take p)) hold (l.length + 1 - p) (by omega) (by omega) (by omega) (by omega) (by rw [hz2]; omega) (by rw [hz2, hik]; exact growslice_fits (by omega) (by omega))
    rw [hik, ← hG, ← hROW, ← hW2] at h
    rw [hkk]
    exact h
  obtain ⟨N, hN⟩ : ∃ N, N = W1.heap.size := ⟨_, rfl⟩
  rw [← hN] at hrz
  have hN2 : W2.heap[N]? = some (.cells ROW 42 (0, 0)) := by rw [hW2, hN]; exact heap_at _ _ _ rfl
  have hg2 : W2.heap[g]? = W1.heap[g]? := by rw [hW2]; exact Lib.alloc_old W1.drew _ g (by show g < W1.heap.size; omega)
  have hv2 : W2.heap[W.heap.size]? = W1.heap[W.heap.size]? := by rw [hW2]; exact Lib.alloc_old W1.drew _ _ (by show _ < W1.heap.size; omega)
  have hNg : g ≠ N := by omega
  have hNv : W.heap.size ≠ N := by omega
  have hcA : ∀ ty dl dc, 0 < dl → (Builtin.copy_ #[33, 33] ty #[.slice (some ⟨N, p * 4, none⟩) dl dc, .slice (some ⟨W.heap.size, 0, none⟩) 1 1]).run Tryd.prog W2 = .ok (goInt 1) (W2.setCells N (p * 4) (encR x)) := fun ty dl dc h0 => by
    have e : Nat.min 1 dl = 1 := by simp only [Nat.min_def]; split <;> omega
    have := run_copy_k W2 33 33 ty 42 N (p * 4) dl dc 4 ⟨W.heap.size, 0, none⟩ 1 1 (encR x) Tryd.underlying33 size42 (by rw [encR_len, e])
      (fun j v hj => by rw [Addr.add_lit, Nat.zero_add, cell_of_row W2 _ j _ _ _ (by rw [hv2]; exact hv1)]; simpa [encR] using hj)
      (fun j hj => by rw [cell_of_row W2 N _ ROW 42 (0, 0) hN2, Array.getElem?_eq_getElem (by rw [hRl]; rw [encR_len] at hj; omega)]; rfl)
      (fun j _ => by simp [World.frozen?, hN2]) (encR_one x)
    rw [e] at this
    exact this
  obtain ⟨C3, hc3, hl3, hs3⟩ := heap_setCells_at N 42 (0, 0) (encR x) (p * 4) W2 ROW hN2 (by rw [encR_len, hRl]; omega)
  obtain ⟨W3, hW3⟩ : ∃ W3, W3 = W2.setCells N (p * 4) (encR x) := ⟨_, rfl⟩
  rw [← hW3] at hc3 hcA
  have hg3 : W3.heap[g]? = W1.heap[g]? := by rw [hW3, heap_setCells_other N g hNg]; exact hg2
  have hcB : ∀ ty dl dc sl sc, dl = l.length - p → sl = l.length - p → (Builtin.copy_ #[33, 33] ty #[.slice (some ⟨N, (p + 1) * 4, none⟩) dl dc, .slice (some ⟨g, p * 4, none⟩) sl sc]).run Tryd.prog W3.drew = .ok (goInt ((l.length - p : Nat) : Int)) (W3.drew.setCells N ((p + 1) * 4) (rwV (l.drop p))) := fun ty dl dc sl sc h1 h2 => by
    have e : Nat.min sl dl = l.length - p := by subst h1 h2; simp
    have := run_copy_k W3.drew 33 33 ty 42 N ((p + 1) * 4) dl dc 4 ⟨g, p * 4, none⟩ sl sc (rwV (l.drop p)) Tryd.underlying33 size42 (by rw [hLen, e])
      (hrow W3.drew hg3 (p * 4) _ (fun j v hj => by rw [← rwV_drop, List.getElem?_drop] at hj; exact hj))
      (fun j hj => by rw [cell_of_row W3.drew N _ C3 42 (0, 0) hc3, Array.getElem?_eq_getElem (by rw [hs3, hRl]; rw [hLen] at hj; omega)]; rfl)
      (fun j _ => by have hc3' : W3.drew.heap[N]? = some (.cells C3 42 (0, 0)) := hc3; simp [World.frozen?, hc3']) (rwV_one _)
    rw [e] at this
    exact this
  have hNB : B ≤ N := by omega
  have hfin : InsPost W B l p x (.returned (.slice (some ⟨N, 0, none⟩) (l.length + 1) G)) (W3.drew.setCells N ((p + 1) * 4) (rwV (l.drop p))) := by
    obtain ⟨C4, hc4, hl4, hs4⟩ := heap_setCells_at N 42 (0, 0) (rwV (l.drop p)) ((p + 1) * 4) W3.drew C3 hc3 (by rw [hLen, hs3, hRl]; omega)
    refine ⟨_, G, rfl, ?_, bel_setCells hNB _ _ _ ?_⟩
    · refine ⟨by rw [rwV_length]; simp; omega, .inr ⟨N, G, C4, rfl, hNB, hc4, hGn, hGm, by omega, ?_⟩⟩
      have := ins_list2 (rwV (l.take p)) (rwV (l.drop p)) ROW.toList (encR x) (encR_len x) (by rw [hal]; exact hRt)
      rw [hal, hLen, show p * 4 + 4 + (l.length - p) * 4 = (l.length + 1) * 4 by omega, show p * 4 + 4 = (p + 1) * 4 by omega] at this
      rw [hl4, hl3, this, rwV_append, rwV_cons]
    · rw [hW3]
      refine Below.drew (bel_setCells hNB _ _ _ ?_)
      rw [hW2]
      exact hB1.drew.alloc (by show B ≤ W1.heap.size; omega) _
  have HFIN := Lib.hid hfin
  clear hfin hrow hold hg1 hv1 hB1 hg2 hv2 hc3 hl3 hs3 hW2 hW3 h hg htk hcs hLen hal hgB hgl hB hW1 hn1 hRl hRt hROW hG hN hN2 hNg hNv hNB hg3 hsz1 hi hz0 hz1 hz2 hik hkk hn2
  unfold maxLen at hGm
  have hG1 : ¬ G = p := by omega
  have hG2 : ¬ G = p + 1 := by omega
  have hnp : ¬ (p : Int) = (l.length : Int) := by omega
  have hnp2 : ¬ l.length = p := by omega
  have hw1 : IntKind.i64.wrap ((p : Int) + 1) = (p : Int) + 1 := by rw [IntKind.wrap_i64]; omega
  have hb1 : (0 : Int) ≤ (p : Int) + 1 := by omega
  have htn : ((p : Int) + 1).toNat = p + 1 := by omega
  have hb3 : (p : Int) ≤ (l.length : Int) + 1 := by omega
  have hb4 : (p : Int) ≤ (l.length : Int) := by omega
  have hb5 : (p : Int) + 1 ≤ (l.length : Int) + 1 := by omega
  have hb6 : (0 : Int) ≤ (p : Int) := by omega
  have hb7 : p ≤ l.length := by omega
  have mixed : Tryd.prog.follows .mixedOrders = true := by kernel_rfl
  generalize l.length = n at *
  go_enter Tryd.func40, Tryd.ntmps40
  go_wp2_with (first
    | (at_builtin; refine Lib.wpList_append_run _ rfl _ _ _ _ rfl _ _ rfl rfl _ _ (hrz _) ?_)
    | (simp only [hcA _ _ _ (show 0 < n + 1 - p by omega)]))
  go_region_law_o (refine step_copy_runI rfl _ _ 33 33 rfl _ _ (by simp [Act.eval, Act.put]) (by simp [Act.eval, Act.put]) (hcB _ _ _ _ _ (by omega) (by omega)) ?_)
  go_wp2_with fail
  go_ret
  exact HFIN.out
theorem insert_any (l : List Vr) (p : Nat) (x : Vr) (hp : p ≤ l.length) (hl : l.length ≤ 1048576) : Insertable l p x := by
  rcases Nat.lt_or_eq_of_le hp with h1 | rfl
  · intro W B A c h hB
    obtain ⟨g, rfl, _, _, _⟩ := h.place (by omega)
    have hnc := h.hr.1.2.1
    rcases Nat.lt_or_ge c (l.length + 1) with h2 | h2
    · obtain rfl : c = l.length := by omega
      exact insert_grow l p x h1 hl W B g h hB
    · exact insert_room l p x h1 hl W B g c h hB h2
  · exact insert_end l x hl
/-- With's contract -/
theorem with_any (w : World) (A : Option Addr) (n c : Nat) (l : List Vr) (t : ByteArray) (k m : Int) (s : ByteArray) (h : HR w A n c l) (hc0 : A = none → c = 0) (hn : n ≤ 1048576) :
    Calls Tryd.prog 24 #[.slice A n c, .string t, .agg #[.int .i64 k, .int .i64 m, .string s]] w (WPost w l t ⟨k, m, s⟩) :=
  with_core w A n c l t k m s h hc0 hn (fun p _ hs _ => insert_any l p _ hs.1 (by have := h.1; omega))
end Go.Proofs.YtnmailhlncchmaaDoor
