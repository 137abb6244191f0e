/-
  What is proved: contract of markup's tell. Conditions: those in each statement.
-/
import Derived.Test.YtbokcihlbpeagaaGreatDoorRm
import Derived.Test.YtbokcihlbpeagaaGreatDoorSsc
namespace Go.Proofs.YtbokcihlbpeagaaGreatDoor
open Go.RowKit

/-- the worlds of the statement that puts a mark behind the others -/
def tlW (V W6 W7 W10 : World) (ls : Nat → Bool) : World := if ls 10 = true then W10 else if ls 7 = true then W7 else if ls 6 = true then W6 else V
def tlV (p q b n Q cap : Nat) (mv : Value) (cs : List Value) : Nat → Value
  | 0 | 1 | 2 | 8 => .pointer (some ⟨p, 0, none⟩)
  | 3 | 9 => .pointer (some ⟨p, 3, none⟩)
  | 4 => mv
  | 5 => .agg cs.toArray
  | 6 => .slice (some ⟨b, 0, none⟩) 1 1
  | 7 => .slice (some ⟨Q, 0, none⟩) (n + 1) cap
  | _ => undef
section
variable {V W6 W7 W10 : World} {ls : Nat → Bool}
theorem tlW_10 (h : ls 10 = true) : tlW V W6 W7 W10 ls = W10 := by unfold tlW; rw [if_pos h]
theorem tlW_7 (h : ls 10 = false) (h7 : ls 7 = true) : tlW V W6 W7 W10 ls = W7 := by unfold tlW; rw [if_neg (by simp [h]), if_pos h7]
theorem tlW_6 (h : ls 10 = false) (h7 : ls 7 = false) (h6 : ls 6 = true) : tlW V W6 W7 W10 ls = W6 := by unfold tlW; rw [if_neg (by simp [h]), if_neg (by simp [h7]), if_pos h6]
theorem tlW_0 (h : ls 10 = false) (h7 : ls 7 = false) (h6 : ls 6 = false) : tlW V W6 W7 W10 ls = V := by unfold tlW; rw [if_neg (by simp [h]), if_neg (by simp [h7]), if_neg (by simp [h6])]
end
theorem Rd.at3 {w : World} {p : Nat} {s : ByteArray} {k f : Nat} {m : Value} (h : Rd w p s k f m) (v : Value) : Rd (w.setCell ⟨p, 3, none⟩ v) p s k f v := heap_setCell_at h 3 v
/-- only the block p, and blocks from B on, may have changed, of what was there -/
def Mq (p B : Nat) (w w' : World) : Prop := Chg (fun b => b = p ∨ B ≤ b) w w'
theorem Mv.toQ {p B : Nat} {w w' : World} (h : Mv p w w') : Mq p B w w' := Chg.mono h (fun _ e => .inl e)
theorem Mq.trans {p B : Nat} {a b c : World} (h : Mq p B a b) (k : Mq p B b c) : Mq p B a c := Chg.trans h k (fun _ _ e => e)
/-- a mark as it is handed on -/
def mkV (mk : Mk) (av : Value) (x : Int) : Value := .agg #[.int .i64 (mk.kind : Int), .string ⟨mk.name.toArray⟩, av, .bool mk.empty, .string ⟨mk.text.toArray⟩, .int .i64 x]

set_option maxHeartbeats 4000000 in
set_option maxRecDepth 100000 in
theorem tell_any (w : World) (p : Nat) (s : ByteArray) (k f : Nat) (mv : Value) (B : Nat) (zs : List (Mk × Value)) (h : Rd w p s k f mv) (hM : MR w B mv zs) (hB : B ≤ w.heap.size) (hn : zs.length ≤ 65536)
    (mk : Mk) (av : Value) (x : Int) (hA : AR w B av mk.attrs) (hap : ∀ z ∈ zs, z.2.ownBlock = none ∨ z.2.ownBlock ≠ av.ownBlock) (hat : mk.at_ = f) :
    Calls Tryz.prog 71 #[.pointer (some ⟨p, 0, none⟩), mkV mk av x] w fun e w' => e = .returned (.tuple #[]) ∧ ∃ mv', Rd w' p s k f mv' ∧ MR w' B mv' (zs ++ [(mk, av)]) ∧ Mq p B w w' := by
  obtain ⟨i0, hi0, hz0, hz1, hz2⟩ := info_parts Tryz.infoMk
  have hlt := h.lt
  have c2 := h.c2
  obtain ⟨A0, n0, hav⟩ := own_slice hA
  obtain ⟨V, hV⟩ : ∃ V, V = (w.alloc (.cells #[.int .i64 (mk.kind : Int), .string ⟨mk.name.toArray⟩, av, .bool mk.empty, .string ⟨mk.text.toArray⟩, .int .i64 (f : Int)] 36)).drew := ⟨_, rfl⟩
  have hb0 : Below w.heap.size w V := by rw [hV]; exact ((Below.refl _ _).alloc (Nat.le_refl _) _).drew
  have hq : V.heap[w.heap.size]? = some (.cells (mkC (mk, av)).toArray 36 (0, 0)) := by rw [hV]; simp only [mkC, hat]; exact heap_at _ _ _ rfl
  have hRV : Rd V p s k f mv := h.below hb0 hlt
  have hMV : MR V B mv zs := hM.keep fun b cur t _ _ hb => hb0.block b (heap_lt hb)
  have hAV : AR V B av mk.attrs := hA.keep fun b cur _ hb => hb0.block b (heap_lt hb)
  have d3 := hRV.c3
  have z3 := hRV.z 3
  have u0 : V.cell? ⟨w.heap.size, 0, none⟩ = some (.int .i64 (mk.kind : Int)) := by rw [Lib.cell_of_heap hq]; rfl
  have u1 : V.cell? ⟨w.heap.size, 1, none⟩ = some (.string ⟨mk.name.toArray⟩) := by rw [Lib.cell_of_heap hq]; rfl
  have u2 : V.cell? ⟨w.heap.size, 2, none⟩ = some av := by rw [Lib.cell_of_heap hq]; rfl
  have u3 : V.cell? ⟨w.heap.size, 3, none⟩ = some (.bool mk.empty) := by rw [Lib.cell_of_heap hq]; rfl
  have u4 : V.cell? ⟨w.heap.size, 4, none⟩ = some (.string ⟨mk.text.toArray⟩) := by rw [Lib.cell_of_heap hq]; rfl
  have u5 : V.cell? ⟨w.heap.size, 5, none⟩ = some (.int .i64 (mk.at_ : Int)) := by rw [Lib.cell_of_heap hq]; rfl
  have hBV : B ≤ V.heap.size := by have := hb0.size; omega
  have h1c : ∀ u ∈ mkC (mk, av), u.oneCell' = true := by
    intro u hu
    simp only [mkC, List.mem_cons, List.not_mem_nil, or_false] at hu
    rcases hu with rfl | rfl | rfl | rfl | rfl | rfl
    · rfl
    · rfl
    · rw [hav]; rfl
    · rfl
    · rfl
    · rfl
  obtain ⟨Q, cap, W7, hrun, hown, hgrow, hor⟩ := apG (V := V) (base := B) (s := 22) (t := 36) (mkC (mk, av)) i0 Tryz.underlying22 hi0 hz0 hz1 hz2 rfl (by decide) hMV.row rfl h1c (by omega) (by omega) hBV
  have hcs : (mkC (mk, av)).toArray = #[.int .i64 (mk.kind : Int), .string ⟨mk.name.toArray⟩, av, .bool mk.empty, .string ⟨mk.text.toArray⟩, .int .i64 (mk.at_ : Int)] := rfl
  -- what is there behind it
  have hold : ∀ b, b < V.heap.size → mv.ownBlock ≠ some b → W7.heap[b]? = V.heap[b]? := fun b hb hne => by
    rw [hgrow.block b (by simp; omega) (fun e => hne e.symm), Below.heap_alloc _ _ _ hb]
  have hpne : mv.ownBlock ≠ some p := by
    intro e
    obtain ⟨cur, h1, _⟩ := own_at hMV.row e
    exact hRV.tag h1 (by decide) rfl
  have hR7 : Rd W7 p s k f mv := by have := hold p hRV.lt hpne; unfold Rd at hRV ⊢; rw [this]; exact hRV
  have e3 := hR7.c3
  have y3 := hR7.z 3
  obtain ⟨W6, hW6⟩ : ∃ W6, W6 = V.alloc (.cells (mkC (mk, av)).toArray 36) := ⟨_, rfl⟩
  have hQp : Q ≠ p := by
    rcases hor with h1 | h1
    · intro e; subst e; exact hpne h1
    · have := hRV.lt; omega
  have hFin : Rd (W7.setCell ⟨p, 3, none⟩ (.slice (some ⟨Q, 0, none⟩) (zs.length + 1) cap)) p s k f (.slice (some ⟨Q, 0, none⟩) (zs.length + 1) cap) ∧
      MR (W7.setCell ⟨p, 3, none⟩ (.slice (some ⟨Q, 0, none⟩) (zs.length + 1) cap)) B (.slice (some ⟨Q, 0, none⟩) (zs.length + 1) cap) (zs ++ [(mk, av)]) ∧ Mq p B w (W7.setCell ⟨p, 3, none⟩ (.slice (some ⟨Q, 0, none⟩) (zs.length + 1) cap)) := by
    have hatt : ∀ (v : Value) (l : List At3), AR V B v l → AR (W7.setCell ⟨p, 3, none⟩ (.slice (some ⟨Q, 0, none⟩) (zs.length + 1) cap)) B v l := fun v l hv => hv.keep fun b cur _ hb => by
      rw [Below.heap_setCell _ _ _ _ (hRV.tag hb (by decide))]
      refine hold b (heap_lt hb) (fun e => ?_)
      obtain ⟨cur2, h1, _⟩ := own_at hMV.row e
      rw [hb] at h1
      simp at h1
    refine ⟨hR7.at3 _, ⟨?_, ?_, ?_⟩, ?_⟩
    · rw [mkCells_snoc, List.length_append]
      exact own_keepG hown fun b hb => Below.heap_setCell _ _ _ _ (by simp [Value.ownBlock] at hb; subst hb; exact hQp)
    · intro z hz
      rcases List.mem_append.1 hz with hz | hz
      · exact hatt _ _ (hMV.att z hz)
      · obtain rfl := List.mem_singleton.1 hz
        exact hatt _ _ hAV
    · rw [List.pairwise_append]
      exact ⟨hMV.apart, List.pairwise_singleton _ _, fun a ha b hb => by obtain rfl := List.mem_singleton.1 hb; exact hap a ha⟩
    · have h0 : Mq p B w V := Chg.of_below hb0
      have h2 : Mq p B w W7 := Chg.grown (Chg.alloc h0 _) hgrow (fun b hb => .inl (.inr (hMV.row.lt b hb).1))
      exact Chg.setCell h2 (.inl (.inl rfl)) _
  rw [← hW6] at hrun
  have a3 : W6.cell? ⟨p, 3, none⟩ = some mv := by
    have : Rd W6 p s k f mv := hRV.below (B := V.heap.size) (by rw [hW6]; exact (Below.refl _ _).alloc (Nat.le_refl _) _) hRV.lt
    exact this.c3
  rw [hcs] at hW6
  have HRUN := Lib.hid hrun
  have HFIN := Lib.hid hFin
  have HV := Lib.hid hV
  have HW6 := Lib.hid hW6
  have HQ : Hid (V.heap.size = V.heap.size) := Lib.hid rfl
  have HAT := Lib.hid hat
  have D3 := Lib.hid d3
  have A3 := Lib.hid a3
  have E3 := Lib.hid e3
  have Y3 := Lib.hid y3
  have U0 := Lib.hid u0
  have U1 := Lib.hid u1
  have U2 := Lib.hid u2
  have U3 := Lib.hid u3
  have U4 := Lib.hid u4
  have U5 := Lib.hid u5
  clear h hM hA hap hat hb0 hq hRV hMV hAV d3 z3 u0 u1 u2 u3 u4 u5 h1c hown hgrow hor hold hpne hR7 e3 y3 hQp hFin hrun hV hW6 a3 hi0 hz0 hz1 hz2 hav hcs
  unfold mkV
  go_enter Tryz.func71, Tryz.ntmps71
  go_wp2_with fail
  refine wp_region_chain (tlV p w.heap.size V.heap.size zs.length Q cap mv (mkC (mk, av))) (tlW V W6 W7 (W7.setCell ⟨p, 3, none⟩ (.slice (some ⟨Q, 0, none⟩) (zs.length + 1) cap))) (by kernel_rfl) (by kernel_rfl) (by rw [HV.out]; rfl) ?_ ?_
  · refine ⟨?_, ?_, ?_, ?_, ?_, ?_, ?_, ?_, ?_, ?_, ?_, trivial⟩
    · intro a ls hcl hi hd hoff hf
      left
      refine ⟨rfl, ?_⟩
      have e0 : a.tmps.getD 0 undef = .pointer (some ⟨p, 0, none⟩) := hoff.slot 0 (no_dst (by kernel_rfl))
      go_simp
      first | exact ⟨rfl, rfl⟩ | exact rfl
    · intro a ls hcl hi hd hoff hf
      left
      refine ⟨rfl, ?_⟩
      have e0 : a.tmps.getD 0 undef = .pointer (some ⟨p, 0, none⟩) := hoff.slot 0 (no_dst (by kernel_rfl))
      go_simp
      first | exact ⟨rfl, rfl⟩ | exact rfl
    · intro a ls hcl hi hd hoff hf
      left
      refine ⟨rfl, ?_⟩
      have e0 : a.tmps.getD 10 undef = .pointer (some ⟨p, 0, none⟩) := hf 1 _ (hd 1 rfl) rfl
      go_simp
      first | exact ⟨rfl, rfl⟩ | exact rfl
    · intro a ls hcl hi hd hoff hf
      left
      refine ⟨rfl, ?_⟩
      have e0 : a.tmps.getD 11 undef = .pointer (some ⟨p, 0, none⟩) := hf 2 _ (hd 2 rfl) rfl
      go_simp
      first | exact ⟨rfl, rfl⟩ | exact rfl
    · intro a ls hcl hi hd hoff hf
      left
      refine ⟨rfl, ?_⟩
      have e0 : a.tmps.getD 12 undef = .pointer (some ⟨p, 3, none⟩) := hf 3 _ (hd 3 rfl) rfl
      have h7 : ls 7 = false := hcl.no hi rfl rfl
      have h10 : ls 10 = false := hcl.no h7 rfl rfl
      have hc : (tlW V W6 W7 (W7.setCell ⟨p, 3, none⟩ (.slice (some ⟨Q, 0, none⟩) (zs.length + 1) cap)) ls).cell? ⟨p, 3, none⟩ = some mv := by
        cases h6 : ls 6 with
        | false => rw [tlW_0 h10 h7 h6]; exact D3.out
        | true => rw [tlW_6 h10 h7 h6]; exact A3.out
      go_simp
      first | exact ⟨rfl, rfl⟩ | exact rfl
    · intro a ls hcl hi hd hoff hf
      left
      refine ⟨rfl, ?_⟩
      have e0 : a.tmps.getD 3 undef = .pointer (some ⟨w.heap.size, 0, none⟩) := hoff.slot 3 (no_dst (by kernel_rfl))
      have h6 : ls 6 = false := hcl.no hi rfl rfl
      have h7 : ls 7 = false := hcl.no h6 rfl rfl
      have h10 : ls 10 = false := hcl.no h7 rfl rfl
      have hw : tlW V W6 W7 (W7.setCell ⟨p, 3, none⟩ (.slice (some ⟨Q, 0, none⟩) (zs.length + 1) cap)) (updB ls 5) = V := tlW_0 h10 h7 h6
      rw [hw, tlW_0 h10 h7 h6]
      have u0 := U0.out
      have u1 := U1.out
      have u2 := U2.out
      have u3 := U3.out
      have u4 := U4.out
      have u5 := U5.out
      go_simp
      first | exact ⟨rfl, rfl⟩ | exact rfl
    · intro a ls hcl hi hd hoff hf
      left
      refine ⟨rfl, ?_⟩
      have e0 : a.tmps.getD 14 undef = .agg #[.int .i64 (mk.kind : Int), .string ⟨mk.name.toArray⟩, av, .bool mk.empty, .string ⟨mk.text.toArray⟩, .int .i64 (mk.at_ : Int)] := hf 5 _ (hd 5 rfl) rfl
      have e1 : a.tmps[14]?.getD undef = .agg #[.int .i64 (mk.kind : Int), .string ⟨mk.name.toArray⟩, av, .bool mk.empty, .string ⟨mk.text.toArray⟩, .int .i64 (mk.at_ : Int)] := by rw [← e0]; simp [Array.getD_eq_getD_getElem?]
      have h7 : ls 7 = false := hcl.no hi rfl rfl
      have h10 : ls 10 = false := hcl.no h7 rfl rfl
      have hw : tlW V W6 W7 (W7.setCell ⟨p, 3, none⟩ (.slice (some ⟨Q, 0, none⟩) (zs.length + 1) cap)) (updB ls 6) = W6 := tlW_6 h10 h7 rfl
      rw [hw, tlW_0 h10 h7 hi, HW6.out]
      go_simp
      first | exact ⟨rfl, rfl⟩ | exact rfl
    · intro a ls hcl hi hd hoff hf
      left
      refine ⟨rfl, ?_⟩
      have e0 : a.eval (.tmp 13) = mv := hf 4 _ (hd 4 rfl) rfl
      have e1 : a.eval (.tmp 15) = .slice (some ⟨V.heap.size, 0, none⟩) 1 1 := hf 6 _ (hd 6 rfl) rfl
      have h10 : ls 10 = false := hcl.no hi rfl rfl
      have hw : tlW V W6 W7 (W7.setCell ⟨p, 3, none⟩ (.slice (some ⟨Q, 0, none⟩) (zs.length + 1) cap)) (updB ls 7) = W7 := tlW_7 h10 rfl
      rw [hw, tlW_6 h10 hi (hd 6 rfl)]
      refine wp_value (v := .slice (some ⟨Q, 0, none⟩) (zs.length + 1) cap) ?_ ⟨rfl, rfl⟩
      simp only [execOp, resolve, invoke, builtin, Sem.run_bind, Sem.run_pure, Result.andThen_ok, List.map_toArray, List.map_cons, List.map_nil, e0, e1, HRUN.out]
    · intro a ls hcl hi hd hoff hf
      left
      refine ⟨rfl, ?_⟩
      have e0 : a.tmps.getD 9 undef = .pointer (some ⟨p, 0, none⟩) := hf 0 _ (hd 0 rfl) rfl
      go_simp
      first | exact ⟨rfl, rfl⟩ | exact rfl
    · intro a ls hcl hi hd hoff hf
      left
      refine ⟨rfl, ?_⟩
      have e0 : a.tmps.getD 17 undef = .pointer (some ⟨p, 0, none⟩) := hf 8 _ (hd 8 rfl) rfl
      go_simp
      first | exact ⟨rfl, rfl⟩ | exact rfl
    · intro a ls hcl hi hd hoff hf
      left
      refine ⟨rfl, ?_⟩
      have e0 : a.tmps.getD 18 undef = .pointer (some ⟨p, 3, none⟩) := hf 9 _ (hd 9 rfl) rfl
      have e1 : a.tmps.getD 16 undef = .slice (some ⟨Q, 0, none⟩) (zs.length + 1) cap := hf 7 _ (hd 7 rfl) rfl
      have hw : tlW V W6 W7 (W7.setCell ⟨p, 3, none⟩ (.slice (some ⟨Q, 0, none⟩) (zs.length + 1) cap)) (updB ls 10) = (W7.setCell ⟨p, 3, none⟩ (.slice (some ⟨Q, 0, none⟩) (zs.length + 1) cap)) := tlW_10 rfl
      rw [hw, tlW_7 hi (hd 7 rfl)]
      have k4 := E3.out
      have k5 := Y3.out
      go_simp
  · intro a ls hl hoff hf
    rw [tlW_10 (hl 10 (by decide))]
    obtain ⟨ys, _, ha⟩ := off_form hoff (mask := [false, false, false, false, false, false, false, false, false, true, true, true, true, true, true, true, true, true, true]) (by kernel_rfl)
    clear hf hoff hl
    subst ha
    simp only [fillFrom, Nat.zero_add, Nat.reduceAdd]
    go_end0
    exact ⟨rfl, _, HFIN.out⟩
end Go.Proofs.YtbokcihlbpeagaaGreatDoor
