/-
  What is proved: slices.Insert of one variable within a row, in place where there is room, and onto a new row where there is none. Conditions: those in each statement.
-/
import Derived.Test.YtnmailhlncchmaaDoorXh
import Derived.Shelf.Spec.SlicesInsertGrow
namespace Go.Proofs.YtnmailhlncchmaaDoor
open Go.RowKit Go.Lib

theorem run_copy_k (w : World) (dT sT ty elem : TypeId) (b o dLen dCap k : Nat) (a : Addr) (sLen sCap : Nat) (cs : List Value)
    (hu : Tryd.prog.underlying dT = some (.slice elem)) (hs : (Tryd.prog.info? elem).map (·.size) = some k) (hn : cs.length = Nat.min sLen dLen * k)
    (hsrc : ∀ j v, cs[j]? = some v → w.cell? (a.add j) = some v) (hc : ∀ j, j < cs.length → (w.cell? ⟨b, o + j, none⟩).isSome = true) (hf : ∀ j, j < cs.length → w.frozen? ⟨b, o + j, none⟩ = false) (h1 : ∀ v ∈ cs, v.oneCell' = true) :
    (Builtin.copy_ #[dT, sT] ty #[.slice (some ⟨b, o, none⟩) dLen dCap, .slice (some a) sLen sCap]).run Tryd.prog w = .ok (goInt (Nat.min sLen dLen)) (w.setCells b o cs) := by
  have hl := run_loadCells_list (P := Tryd.prog) w a cs hsrc
  have hst := run_storeCells_cells (P := Tryd.prog) b o cs 0 w (by simpa using hc) (by simpa using hf) h1
  cases hq : Tryd.prog.info? elem with
  | none => simp [hq] at hs
  | some i =>
    have hi : i.size = k := by simpa [hq] using hs
    simp [Builtin.copy_, run_underlying hu, Builtin.lenOf, Builtin.firstCells, sizeOf, typeInfo, hq, hi, ← hn, hl, hst]
theorem size42 : (Tryd.prog.info? 42).map (·.size) = some 4 := by kernel_rfl
theorem ins_list (a d X e Z : List Value) (he : e.length = 4) (hX : X.take a.length = a) (hL : a.length + 4 ≤ X.length) (hZ : X.drop (a.length + 4 + d.length) = Z) :
    (splice (splice X (a.length + 4) d) a.length e).take (a.length + 4 + d.length) = a ++ (e ++ d) := by
  unfold splice
  rw [hZ, he]
  have h1 : (X.take (a.length + 4)).length = a.length + 4 := by rw [List.length_take]; omega
  have h2 : (X.take (a.length + 4) ++ (d ++ Z)).take a.length = a := by
    rw [List.take_append_of_le_length (by omega), List.take_take, Nat.min_eq_left (by omega), hX]
  have h3 : (X.take (a.length + 4) ++ (d ++ Z)).drop (a.length + 4) = d ++ Z := by
    rw [List.drop_append_of_le_length (by omega), List.drop_of_length_le (by omega), List.nil_append]
  rw [h2, h3]
  have h4 : a ++ (e ++ (d ++ Z)) = (a ++ (e ++ d)) ++ Z := by simp
  rw [h4, List.take_append_of_le_length (by simp; omega), List.take_of_length_le (by simp; omega)]
theorem ins_list2 (a d X e : List Value) (he : e.length = 4) (hX : X.take a.length = a) :
    (splice (splice X a.length e) (a.length + 4) d).take (a.length + 4 + d.length) = a ++ (e ++ d) := by
  unfold splice
  rw [hX]
  have h1 : (a ++ e).length = a.length + 4 := by simp [he]
  have h2 : (a ++ (e ++ X.drop (a.length + e.length))).take (a.length + 4) = a ++ e := by
    rw [← List.append_assoc, List.take_append_of_le_length (by omega), List.take_of_length_le (by omega)]
  rw [h2]
  generalize List.drop (a.length + 4 + d.length) _ = Z
  have h4 : a ++ e ++ (d ++ Z) = (a ++ (e ++ d)) ++ Z := by simp
  rw [h4, List.take_append_of_le_length (by simp; omega), List.take_of_length_le (by simp; omega)]
theorem encR_len (x : Vr) : (encR x).length = 4 := rfl
theorem encR_one (x : Vr) : ∀ v ∈ encR x, v.oneCell' = true := fun v hv => rwV_one [x] v (by simpa [rwV] using hv)
theorem bel_setCells {w : World} {B g : Nat} (hg : B ≤ g) : ∀ (vs : List Value) (o : Nat) (W : World), Below B w W → Below B w (W.setCells g o vs)
  | [], _, _, h => h
  | v :: r, o, _, h => bel_setCells hg r (o + 1) _ (h.setCell (p := ⟨g, o, none⟩) hg v)
set_option maxHeartbeats 16000000 in
set_option maxRecDepth 100000 in
theorem insert_room (l : List Vr) (p : Nat) (x : Vr) (hp : p < l.length) (hl : l.length ≤ 1048576) (W : World) (B g c : Nat) (h : OwR W B (some ⟨g, 0, none⟩) l.length c l) (hB : B ≤ W.heap.size) (hroom : l.length + 1 ≤ c) :
    Calls Tryd.prog 40 #[.slice (some ⟨g, 0, none⟩) l.length c, .int .i64 (p : Int), .slice (some ⟨W.heap.size, 0, none⟩) 1 1] (W.alloc (.cells #[.string x.nm, .int .i64 x.v.k, .int .i64 x.v.n, .string x.v.s] 42 (0, 0))) (InsPost W B l p x) := by
  obtain ⟨g', e, hgB, hgl, _⟩ := h.place (by omega)
  cases e
  obtain ⟨cur, hg, hn1, hn2, hcs, htk⟩ := own_block (own_un h)
  have HO := Lib.hid h
  have hLen : (rwV (l.drop p)).length = (l.length - p) * 4 := by rw [rwV_length, List.length_drop]
  obtain ⟨W1, hW1⟩ : ∃ W1, W1 = W.alloc (.cells #[.string x.nm, .int .i64 x.v.k, .int .i64 x.v.n, .string x.v.s] 42 (0, 0)) := ⟨_, rfl⟩
  rw [← hW1]
  have hg1 : W1.heap[g]? = some (.cells cur 42 (0, 0)) := by rw [hW1, Lib.alloc_old W _ g hgl]; exact hg
  have hv1 : W1.heap[W.heap.size]? = some (.cells #[.string x.nm, .int .i64 x.v.k, .int .i64 x.v.n, .string x.v.s] 42 (0, 0)) := by rw [hW1]; exact heap_at _ _ _ rfl
  have hB1 : Below B W W1 := by rw [hW1]; exact (Below.refl _ _).alloc hB _
  have hne : W.heap.size ≠ g := by omega
  have hsp : ∀ (V : World), V.heap = W1.heap → ∀ j, j < c * 4 → (V.cell? ⟨g, 0 + j, none⟩).isSome = true := fun V hV j hj => by
    rw [cell_of_row V g (0 + j) cur 42 (0, 0) (by rw [hV]; exact hg1), Array.getElem?_eq_getElem (by omega)]; rfl
  have hov : ∀ lb cb, (callFunc 51 #[.slice (some ⟨W.heap.size, 0, none⟩) 1 1, .slice (some ⟨g, (p + 1) * 4, none⟩) lb cb]).run Tryd.prog W1 = .ok (.value (.bool false)) W1 := fun lb cb => by
    rw [run_callFunc_extern Tryd.func51 (by kernel_rfl) (by kernel_rfl) (by kernel_rfl) (e := Extern.SlicesOverlaps.overlaps #[33, 33] #[4]) (by kernel_rfl),
      Lib.run_overlaps_apart W1 33 4 42 Tryd.underlying33 4 Tryd.sizeOf42 ⟨W.heap.size, 0, none⟩ ⟨g, (p + 1) * 4, none⟩ 1 1 lb cb hne 42 42 4 (c * 4) (by simp [World.shape?, hv1]) (by simp [World.shape?, hg1, hcs]) (by omega) (by simp [World.frozen?, hv1]) (by simp [World.frozen?, hv1])]
    rfl
  have hsrc : ∀ (V : World), V.heap = W1.heap → ∀ j v, (rwV (l.drop p))[j]? = some v → V.cell? ((⟨g, p * 4, none⟩ : Addr).add j) = some v := fun V hV j v hj => by
    rw [Addr.add_lit, cell_of_row V g (p * 4 + j) cur 42 (0, 0) (by rw [hV]; exact hg1)]
    have hjl : j < (rwV (l.drop p)).length := (List.getElem?_eq_some_iff.1 hj).1
    rw [hLen] at hjl
    rw [← rwV_drop, List.getElem?_drop, ← htk, List.getElem?_take, if_pos (by omega)] at hj
    simpa using hj
  have hfz : ∀ (V : World), V.heap = W1.heap → ∀ j, V.frozen? ⟨g, j, none⟩ = false := fun V hV j => by simp [World.frozen?, hV, hg1]
  have hcp1 : ∀ ty dl dc sl sc, dl = l.length - p → sl = l.length + 1 - p → (Builtin.copy_ #[33, 33] ty #[.slice (some ⟨g, (p + 1) * 4, none⟩) dl dc, .slice (some ⟨g, p * 4, none⟩) sl sc]).run Tryd.prog W1.drew = .ok (goInt ((l.length - p : Nat) : Int)) (W1.drew.setCells g ((p + 1) * 4) (rwV (l.drop p))) := fun ty dl dc sl sc h1 h2 => by
    have e : Nat.min sl dl = l.length - p := by subst h1 h2; simp only [Nat.min_def]; split <;> omega
    have := run_copy_k W1.drew 33 33 ty 42 g ((p + 1) * 4) dl dc 4 ⟨g, p * 4, none⟩ sl sc (rwV (l.drop p)) Tryd.underlying33 size42 (by rw [hLen, e])
      (hsrc W1.drew rfl) (fun j hj => by have := hsp W1.drew rfl ((p + 1) * 4 + j) (by rw [hLen] at hj; omega); simpa using this) (fun j _ => hfz W1.drew rfl _) (rwV_one _)
    rw [e] at this
    exact this
  obtain ⟨W2, hW2⟩ : ∃ W2, W2 = W1.drew.setCells g ((p + 1) * 4) (rwV (l.drop p)) := ⟨_, rfl⟩
  obtain ⟨C2, hg2, hc2, hs2⟩ := heap_setCells_at g 42 (0, 0) (rwV (l.drop p)) ((p + 1) * 4) W1.drew cur hg1 (by rw [hLen, hcs]; omega)
  rw [← hW2] at hg2 hcp1
  have hv2 : W2.heap[W.heap.size]? = some (.cells #[.string x.nm, .int .i64 x.v.k, .int .i64 x.v.n, .string x.v.s] 42 (0, 0)) := by rw [hW2, heap_setCells_other g _ hne]; exact hv1
  have hcp2 : ∀ (V : World), V.heap = W2.heap → ∀ ty dl dc, 0 < dl → (Builtin.copy_ #[33, 33] ty #[.slice (some ⟨g, p * 4, none⟩) dl dc, .slice (some ⟨W.heap.size, 0, none⟩) 1 1]).run Tryd.prog V = .ok (goInt 1) (V.setCells g (p * 4) (encR x)) := fun V hV ty dl dc h0 => by
    have e : Nat.min 1 dl = 1 := by simp only [Nat.min_def]; split <;> omega
    have := run_copy_k V 33 33 ty 42 g (p * 4) dl dc 4 ⟨W.heap.size, 0, none⟩ 1 1 (encR x) Tryd.underlying33 size42 (by rw [encR_len, e])
      (fun j v hj => by rw [Addr.add_lit, Nat.zero_add, cell_of_row V _ j _ _ _ (by rw [hV]; exact hv2)]; simpa [encR] using hj)
      (fun j hj => by rw [cell_of_row V g _ C2 42 (0, 0) (by rw [hV]; exact hg2), Array.getElem?_eq_getElem (by rw [hs2, hcs]; rw [encR_len] at hj; omega)]; rfl)
      (fun j _ => by simp [World.frozen?, hV, hg2]) (encR_one x)
    rw [e] at this
    exact this
  have hfin : ∀ (V : World), V.heap = W2.heap → Below B W V → InsPost W B l p x (.returned (.slice (some ⟨g, 0, none⟩) (l.length + 1) c)) (V.setCells g (p * 4) (encR x)) := fun V hV hVB => by
    obtain ⟨C3, hg3, hc3, hs3⟩ := heap_setCells_at g 42 (0, 0) (encR x) (p * 4) V C2 (by rw [hV]; exact hg2) (by rw [encR_len, hs2, hcs]; omega)
    refine ⟨_, c, rfl, ?_, bel_setCells hgB _ _ _ hVB⟩
    have hal : (rwV (l.take p)).length = p * 4 := by rw [rwV_length, List.length_take]; omega
    have hcl : cur.toList.length = c * 4 := by simpa using hcs
    refine ⟨by rw [rwV_length]; simp; omega, .inr ⟨g, c, C3, rfl, hgB, hg3, hroom, hn2, by omega, ?_⟩⟩
    have := ins_list (rwV (l.take p)) (rwV (l.drop p)) cur.toList (encR x) _ (encR_len x) (by rw [hal, ← rwV_take, ← htk, List.take_take, Nat.min_eq_left (by omega)]) (by rw [hal, hcl]; omega) rfl
    rw [hal, hLen, show p * 4 + 4 + (l.length - p) * 4 = (l.length + 1) * 4 by omega, show p * 4 + 4 = (p + 1) * 4 by omega] at this
    rw [hc3, hc2, this, rwV_append, rwV_cons]
  have hBW2 : Below B W W2 := by rw [hW2]; exact bel_setCells hgB _ _ _ hB1.drew
  have HFIN := Lib.hid hfin
  have HBW2 := Lib.hid hBW2
  have HN := Lib.hid hl
  clear hfin hBW2 hsrc hfz hsp hg1 hv1 hB1 hg2 hv2 hc2 hs2 hW2 HO h hg htk hcs hLen hgB hgl hB hW1 hne hn1
  unfold maxLen at hn2
  have hcz : ((l.length + 1 : Nat) : Int) ≤ (c : Int) := by omega
  have hpc : ¬ c = p + 1 := by omega
  have hpc2 : ¬ c = p := by omega
  have hnp : ¬ (p : Int) = (l.length : Int) := by omega
  have hw1 : IntKind.i64.wrap ((p : Int) + 1) = (p : Int) + 1 := by rw [IntKind.wrap_i64]; omega
  have hb1 : (0 : Int) ≤ (p : Int) + 1 := by omega
  have htn : ((p : Int) + 1).toNat = p + 1 := by omega
  have hb3 : (p : Int) ≤ (l.length : Int) + 1 := by omega
  have hb4 : (p : Int) ≤ (l.length : Int) := by omega
  have hb5 : (p : Int) + 1 ≤ (l.length : Int) + 1 := by omega
  have hb6 : (0 : Int) ≤ (p : Int) := by omega
  have hb7 : p ≤ l.length := by omega
  have mixed : Tryd.prog.follows .mixedOrders = true := by kernel_rfl
  generalize l.length = n at *
  go_enter Tryd.func40, Tryd.ntmps40
  go_wp2_with (simp only [hov])
  go_region_law_o (refine step_copy_runI rfl _ _ 33 33 rfl _ _ (by simp [Act.eval, Act.put]) (by simp [Act.eval, Act.put]) (hcp1 _ _ _ _ _ (by omega) (by omega)) ?_)
  have hC2 := fun ty dc => hcp2 W2 rfl ty (n + 1 - p) dc (by omega)
  clear hcp2 hcp1
  go_wp2_with (simp only [hC2])
  go_ret
  exact HFIN.out _ rfl HBW2.out
end Go.Proofs.YtnmailhlncchmaaDoor
