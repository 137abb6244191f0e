/-
  What is proved: what the journal's 'read' answers: the bytes of a span that begins with a sector. Conditions: the disk is up, the span lies on it.
-/
import Derived.Test.YtbfhlleipeipbaaJp
namespace Go.Proofs.Ytbfhlleipeipbaa
open Go.RowKit

/-- the bytes of sectors one behind the other -/
def D.bytes (s : D) (k0 N : Nat) : List UInt8 := ((List.range N).map fun k => s.told (k0 + k)).flatten
theorem D.bytes_succ (s : D) (k0 N : Nat) : s.bytes k0 (N + 1) = s.bytes k0 N ++ s.told (k0 + N) := by
  simp [D.bytes, List.range_succ]
theorem D.bytes_length {s : D} (h : s.Ok) (k0 : Nat) : ∀ N, k0 + N ≤ s.last.length → (s.bytes k0 N).length = 64 * N
  | 0, _ => rfl
  | N + 1, hN => by
    rw [D.bytes_succ, List.length_append, D.bytes_length h k0 N (by omega), h.told_len (by omega)]
    omega
theorem Hold.put {w : World} {A : Option Addr} {n c : Nat} {l : List UInt8} (h : Hold w A n c l) {r : Nat} {o o' : Obj} (hr : w.heap[r]? = some o) (ho : o.isCells = false) : Hold (w.putObj r o') A n c l := by
  refine ⟨h.1, h.2.1, h.2.2.1, fun hn => ?_⟩
  obtain ⟨b, off, e, hc⟩ := h.2.2.2 hn
  exact ⟨b, off, e, fun j hj => cell_kept (hc j hj) (grownBy_putObj' _ r o') (fun k e => by cases e; exact ⟨_, hr, ho⟩)⟩
/-- the invariant of 'read's rounds: the boxes of the disk and of what was read -/
structure ReadI (w : World) (g db sb bb : Nat) (f t : Int) (k0 : Nat) (s : D) (k : Nat) (W : World) : Prop where
  sbox : W.heap[sb]? = some (.cells #[.int .i64 f, .int .i64 t] 74 (0, 0))
  dbox : W.heap[db]? = some (.cells #[.pointer (some ⟨g, 0, none⟩)] 24 (0, 0))
  bel : Below w.heap.size w W
  ex : ∃ A c, W.heap[bb]? = some (.cells #[.slice A (64 * k) c] 43 (0, 0)) ∧ W.ownsRow w.heap.size 5 1 (.slice A (64 * k) c) (64 * k) (bv (s.bytes k0 k))
theorem Below.calm {w W W' : World} {B : Nat} (h : Below w.heap.size w W) (hc : Calm B W W') (hB : w.heap.size ≤ B) : Below w.heap.size w W' :=
  h.trans ⟨hc.os, hc.tape, hc.output, hc.size, fun b hb => hc.low b (by omega) (by have := h.size; omega)⟩
theorem own_cells {W W' : World} {base e z n : Nat} {v : Value} {xs : List Value} (h : W.ownsRow base e z v n xs) (hc : ∀ (b : Nat) (C : Array Value) (t : TypeId) (fr : Nat × Nat), t = e → W.heap[b]? = some (.cells C t fr) → W'.heap[b]? = some (.cells C t fr)) : W'.ownsRow base e z v n xs := by
  refine ⟨h.1, ?_⟩
  rcases h.2 with h0 | ⟨g, cap, cur, hv, h1, hg, r⟩
  · exact .inl h0
  · exact .inr ⟨g, cap, cur, hv, h1, hc _ _ _ _ rfl hg, r⟩
theorem ReadI.calm {w W W' : World} {g db sb bb k0 B : Nat} {f t : Int} {s : D} {k : Nat} (h : ReadI w g db sb bb f t k0 s k W) (hc : Calm B W W') (hB : w.heap.size ≤ B) : ReadI w g db sb bb f t k0 s k W' := by
  obtain ⟨h0, h1, h2, A, c, h3, h4⟩ := h
  exact ⟨hc.cells _ _ _ _ h0, hc.cells _ _ _ _ h1, Below.calm h2 hc hB, A, c, hc.cells _ _ _ _ h3, own_cells h4 (fun b C t fr _ hb => hc.cells b C t fr hb)⟩

section
variable {P : Program} {n : Nat} {l : Nat} {Q : Exit → Act → World → Prop} {a : Act} {w : World} {id : Nat} {ops : List Oper}
theorem seq_in {y : Code} (hc : calmB ops = true) (h : ∀ K : Act → World → Prop, (∀ a w, y.wpIn (Fence.wide.inRound l) n P Q a w → K a w) → wpList P ops.toArray (only K) ops a w) : ((Code.region id ops.toArray false).seq y).wpIn (Fence.wide.inRound l) n P Q a w :=
  wpIn_seq (region_in (fun a w => y.wpIn (Fence.wide.inRound l) n P Q a w) hc (fun _ _ h => h) (h _ fun _ _ h => h))
theorem last_in (hc : calmB ops = true) (h : ∀ K : Act → World → Prop, (∀ a w, Q .normal a w → K a w) → wpList P ops.toArray (only K) ops a w) : (Code.region id ops.toArray false).wpIn (Fence.wide.inRound l) n P Q a w :=
  region_in (fun a w => Q .normal a w) hc (fun _ _ h => h) (h _ fun _ _ h => h)
end

/-- what Read answers, of a sector that there is, of a disk that is up -/
def SecRead (s : D) (i : Nat) (w : World) (e : Ending) (w' : World) : Prop :=
  ∃ k, e = .returned (.tuple #[.slice (some ⟨k, 0, none⟩) 64 64, .int .i64 0]) ∧ Hold w' (some ⟨k, 0, none⟩) 64 64 (s.told i) ∧ w.heap.size ≤ k ∧ Below w.heap.size w w'
theorem read_up {w : World} {g L : Nat} {q : Option Nat} {s : D} (h : Dk w g L q s) (i : Nat) (hi : i < s.last.length) (hup : s.left ≠ 0) (hn : s.buf.length ≤ 4611686018427387904) :
    Calls Try.prog 43 #[.pointer (some ⟨g, 0, none⟩), .int .i64 (i : Int)] w (SecRead s i w) := by
  have hr : s.refuse (i : Int) = 0 := by
    unfold D.refuse
    rw [if_neg hup, if_neg (by omega)]
  refine (read_any w g L q s h i hn).mono fun e w' hp => ?_
  unfold ReadPost at hp
  rw [if_pos hr] at hp
  obtain ⟨k, rfl, h2, h3, h4⟩ := hp
  refine ⟨k, rfl, ?_, h2, h4⟩
  rw [Int.toNat_natCast] at h3
  exact Hold.block h3 64 (h.ok.told_len hi).symm
theorem two_cells {w : World} {b : Nat} {u v : Value} {t : TypeId} (h : w.heap[b]? = some (.cells #[u, v] t (0, 0))) : w.cell? ⟨b, 0, none⟩ = some u ∧ w.cell? ⟨b, 1, none⟩ = some v := by
  refine ⟨?_, ?_⟩
  · rw [cell_of_row w b 0 _ t (0, 0) h]; rfl
  · rw [cell_of_row w b 1 _ t (0, 0) h]; rfl
theorem one_cell {w : World} {b : Nat} {v : Value} {t : TypeId} (h : w.heap[b]? = some (.cells #[v] t (0, 0))) : w.cell? ⟨b, 0, none⟩ = some v ∧ w.frozen? ⟨b, 0, none⟩ = false := by
  refine ⟨?_, by simp [World.frozen?, h]⟩
  rw [cell_of_row w b 0 _ t (0, 0) h]; rfl
theorem Keeps.of_chg {B : Nat} {W W' : World} {S : Nat → Prop} (hc : Chg S W W') (hS : ∀ b, S b → ∃ C t fr, W.heap[b]? = some (.cells C t fr) ∧ t ≠ 74) : Keeps B W W' := by
  refine ⟨hc.size, fun b o _ hb ho => ?_⟩
  rw [hc.block b (Array.getElem?_eq_some_iff.1 hb).1]
  · exact hb
  · intro hs
    obtain ⟨C, t, fr, h1, h2⟩ := hS b hs
    rw [h1] at hb
    injection hb with hb
    subst hb
    rcases ho with ho | ⟨C', fr', ho⟩
    · simp [Obj.isCells] at ho
    · injection ho with _ ho
      exact h2 ho
/-- a round's last steps: what was read is laid behind, and put into its box -/
theorem read_step {w W w2 w3 : World} {g db sb bb k0 k B : Nat} {f t : Int} {s : D} {A A' : Option Addr} {c c' : Nat} (h : ReadI w g db sb bb f t k0 s k W) (h1 : W.heap[bb]? = some (.cells #[.slice A (64 * k) c] 43 (0, 0))) (h2 : W.ownsRow w.heap.size 5 1 (.slice A (64 * k) c) (64 * k) (bv (s.bytes k0 k))) (hb2 : Below W.heap.size W w2)
    (h3 : w3.ownsRow w.heap.size 5 1 (.slice A' (64 * k + 64) c') (64 * k + 64) (bv (s.bytes k0 k ++ s.told (k0 + k)))) (hg : w2.grownBy w3 (Value.slice A (64 * k) c).ownBlock) (hbb : w.heap.size ≤ bb) :
    w3.cell? ⟨bb, 0, none⟩ = some (.slice A (64 * k) c) ∧ w3.frozen? ⟨bb, 0, none⟩ = false ∧ ReadI w g db sb bb f t k0 s (k + 1) (w3.setCell ⟨bb, 0, none⟩ (.slice A' (64 * k + 64) c')) ∧ Keeps B W (w3.setCell ⟨bb, 0, none⟩ (.slice A' (64 * k + 64) c')) := by
  have hrow : ∀ b, (Value.slice A (64 * k) c).ownBlock = some b → ∃ C, W.heap[b]? = some (.cells C 5 (0, 0)) := fun b hb => own_tag (own_mono h2 (Nat.zero_le _)) hb
  have hcell : ∀ (b : Nat) (C : Array Value) (t : TypeId) (fr : Nat × Nat), W.heap[b]? = some (.cells C t fr) → t ≠ 5 → w3.heap[b]? = some (.cells C t fr) := by
    intro b C t fr hb ht
    have hlt := (Array.getElem?_eq_some_iff.1 hb).1
    rw [hg.block b (by have := hb2.size; omega) (fun e => by
      obtain ⟨C', hC⟩ := hrow b e.symm
      rw [hC] at hb
      injection hb with hb
      injection hb with _ hb
      exact ht hb.symm), hb2.block b hlt]
    exact hb
  have hbox := hcell _ _ _ _ h1 (by decide)
  have hdb := hcell _ _ _ _ h.dbox (by decide)
  have hsb := hcell _ _ _ _ h.sbox (by decide)
  have hne' : sb ≠ bb := fun e => by
    have := h.sbox
    rw [e, h1] at this
    injection this with this
    injection this with _ this
    cases this
  have hne : db ≠ bb := fun e => by
    have := h.dbox
    rw [e, h1] at this
    injection this with this
    injection this with _ this
    cases this
  have hch : Chg (fun b => b = bb ∨ (Value.slice A (64 * k) c).ownBlock = some b) W (w3.setCell ⟨bb, 0, none⟩ (.slice A' (64 * k + 64) c')) :=
    ((Chg.of_below hb2).grown hg (fun b hb => .inl (.inr hb))).setCell (.inl (.inl rfl)) _
  refine ⟨(one_cell hbox).1, (one_cell hbox).2, ⟨?_, ?_, ?_, A', c', ?_, ?_⟩, ?_⟩
  · rw [Below.heap_setCell _ _ _ _ hne']; exact hsb
  · rw [Below.heap_setCell _ _ _ _ hne]; exact hdb
  · refine Chg.below h.bel hch h.bel.size ?_
    rintro b (rfl | hb)
    · exact hbb
    · exact (h2.lt b hb).1
  · have := heap_setCell_at hbox 0 (.slice A' (64 * k + 64) c')
    simpa [Nat.mul_succ] using this
  · rw [D.bytes_succ]
    have e : 64 * (k + 1) = 64 * k + 64 := by omega
    rw [e]
    refine own_cells h3 fun b C t fr ht hb => ?_
    rw [Below.heap_setCell _ _ _ _ (fun e => ?_)]
    · exact hb
    · subst e
      subst ht
      rw [hbox] at hb
      injection hb with hb
      injection hb with _ hb
      cases hb
  · refine Keeps.of_chg hch ?_
    rintro b (rfl | hb)
    · exact ⟨_, _, _, h1, by decide⟩
    · obtain ⟨C, hC⟩ := hrow b hb
      exact ⟨C, 5, _, hC, by decide⟩

def rdF (A : Option Addr) (N n c : Nat) (f t : Int) (i : Nat) (v : Value) (_ : World) : Prop :=
  match i with
  | 0 => v = .slice A (64 * N) c
  | 1 => v = .agg #[.int .i64 f, .int .i64 t]
  | 2 => v = .int .i64 (n : Int)
  | _ => v = .slice A n c

set_option maxRecDepth 100000 in
set_option maxHeartbeats 1000000 in
theorem jread_any (w : World) (g L : Nat) (q : Option Nat) (s : D) (h : Dk w g L q s) (k0 n N : Nat) (f t : Int) (hf : f = ((64 * k0 : Nat) : Int)) (ht : t = ((64 * k0 + n : Nat) : Int)) (hup : s.left ≠ 0) (hN : N = (n + 63) / 64) (hin : k0 + N ≤ s.last.length) (hbuf : s.buf.length ≤ 4611686018427387904) :
    Calls Try.prog 69 #[.pointer (some ⟨g, 0, none⟩), .agg #[.int .i64 f, .int .i64 t]] w fun e w' => ∃ A c, e = .returned (.slice A n c) ∧ Hold w' A n c ((s.bytes k0 N).take n) ∧ Below w.heap.size w w' := by
  have hmost := h.ok.most
  have hf0 : 0 ≤ f := by omega
  have hf1 : f ≤ 4194304 := by omega
  have ht0 : 0 ≤ t := by omega
  have ht1 : t ≤ 4194304 := by omega
  have htf : t - f = (n : Int) := by omega
  have hk0 : f / 64 = (k0 : Int) := by omega
  have hNlo : ∀ k : Nat, k < N → ((k0 : Int) + k) * 64 < t := by intro k hk; omega
  have hNhi : t ≤ ((k0 : Int) + N) * 64 := by omega
  have HF := Lib.hid hf
  have HT := Lib.hid ht
  have HTF := Lib.hid htf
  have HK := Lib.hid hk0
  have HN := Lib.hid hN
  have HD := Lib.hid h
  clear hf ht htf hk0 hN h
  refine (callsIn_wide (n := 0)).1 (callsIn_of_wp_marks Try.func69 rfl trivial (wpIn_wide.2 ?_) rfl)
  simp only [Try.ntmps69, List.size_toArray, List.length_cons, List.length_nil, Nat.reduceAdd, Nat.reduceSub, Array.replicate_succ, Array.replicate_zero, List.push_toArray, List.append_toArray, List.nil_append, List.cons_append]
  go_wp2_with fail
  refine wp_sectors f t k0 N rfl hf0 (by omega) ht0 (by omega) HK.out hNlo hNhi (by omega) (ReadI w g w.heap.size (w.heap.size + 1) (w.heap.size + 1 + 1) f t k0 s) (fun _ => False) (fun k W W' h hc => h.calm hc (by simp; omega)) (fun _ _ h _ => h) ?start
    (fun k => { tmps := #[.pointer (some ⟨g, 0, none⟩), .agg #[.int .i64 f, .int .i64 t], .pointer (some ⟨w.heap.size, 0, none⟩), .pointer (some ⟨w.heap.size + 1, 0, none⟩), .slice none 0 0, .pointer (some ⟨w.heap.size + 1 + 1, 0, none⟩), .int .i64 ((k0 : Int) + k), undef, undef, .agg #[.int .i64 f, .int .i64 t], .func (.func 90) #[.agg #[.int .i64 f, .int .i64 t]] #[], .int .i64 ((k0 : Int) + k), undef, undef, undef, undef, undef, undef, undef, undef, undef, undef, undef, undef, undef], defers := [] })
    ?assign ?body ?done (fun _ _ _ h _ => h.elim)
  case start =>
    refine ⟨?_, ?_, (((Below.refl _ _).alloc (Nat.le_refl _) _).alloc (by simp) _).alloc (by simp; omega) _, none, 0, ?_, World.ownsRow_nil _ _ _ _⟩
    · rw [Below.heap_alloc _ _ _ (by simp)]
      exact heap_at _ _ _ (by simp)
    · rw [Below.heap_alloc _ _ _ (by simp; omega), Below.heap_alloc _ _ _ (by simp)]
      exact heap_alloc_new _ _
    · exact heap_at _ _ _ (by simp)
  case assign =>
    intro l k W K hK
    refine last_in (by kernel_rfl) fun K' hK' => ?_
    go_wp2
    exact hK' _ _ hK
  case body =>
    intro l k W hk hI hsz
    refine wpIn_block ?_
    obtain ⟨A, c, hbx, hown⟩ := hI.ex
    obtain ⟨hdc, _⟩ := one_cell hI.dbox
    have hrd := read_up (HD.out.below hI.bel) (k0 + k) (by omega) hup hbuf
    rw [Int.natCast_add] at hrd
    have HR := Lib.hid hrd
    have HI := Lib.hid hI
    have HBX := Lib.hid hbx
    have HO := Lib.hid hown
    clear hI hbx hown hrd
    refine seq_in (by kernel_rfl) fun K hK => ?_
    go_wp2_with fail
    refine HR.out.mono ?_
    rintro e w2 ⟨kb, rfl, hh, hkb, hb2⟩
    have HH := Lib.hid hh
    have HB2 := Lib.hid hb2
    clear hh hb2
    go_wp2_with fail
    refine hK _ _ ?_
    clear hK
    have hbx2 : w2.cell? ⟨w.heap.size + 1 + 1, 0, none⟩ = some (.slice A (64 * k) c) := (one_cell ((HB2.out.block _ (Array.getElem?_eq_some_iff.1 HBX.out).1).trans HBX.out)).1
    have hszW := HI.out.bel.size
    have hszw2 := HB2.out.size
    refine last_in (by kernel_rfl) fun K hK => ?_
    go_wp2_with (at_builtin; refine wpList_append_hold rfl (.tmp 18) (.tmp 19) rfl w.heap.size (.slice A (64 * k) c) (64 * k) (s.bytes k0 k) rfl (own_belowG HO.out HB2.out) (some ⟨kb, 0, none⟩) 64 64 (s.told (k0 + k)) rfl HH.out (by omega) (by omega) ?_; intro A3 c3 w3 hown3 hgrow3; obtain ⟨r1, r2, r3, r4⟩ := read_step (B := w.heap.size + 3) HI.out HBX.out HO.out HB2.out hown3 hgrow3 (by omega); have R3 := Lib.hid r3; have R4 := Lib.hid r4; clear r3 r4 hown3 hgrow3)
    exact hK _ _ ⟨R3.out, by simpa using R4.out⟩
  case done =>
    intro D W hD hI hDf
    obtain ⟨A, c, hbx, hown⟩ := hI.ex
    have hsb := hI.sbox
    have hbel := hI.bel
    have hlenN : n ≤ 64 * N := by have := HN.out; omega
    have hho := (Hold.of_own hown).take hlenN
    have HHO := Lib.hid hho
    have HBX := Lib.hid hbx
    have HSB := Lib.hid hsb
    have HBE := Lib.hid hbel
    have HDF := Lib.hid hDf
    have hcap : 64 * N ≤ c := (Hold.of_own hown).2.1
    clear hI hbx hown hsb hbel hDf hho
    unfold marked
    go_wp2_with fail
    refine wp_region_steps (rdF A N n c f t) (fun w w' => Below w.heap.size w w') (by kernel_rfl) (by kernel_rfl) (fun w => Below.refl _ _) (fun _ _ _ h k => h.trans (k.mono h.size)) (fun i v w w' h _ => h) ?_ ?_
    · refine ⟨?_, ?_, ?_, ?_, ?_, trivial⟩
      · intro a V hR hoff hd
        left
        refine ⟨rfl, ?_⟩
        have e0 : a.tmps.getD 5 undef = .pointer (some ⟨w.heap.size + 1 + 1, 0, none⟩) := hoff.slot 5 (no_dst (by kernel_rfl))
        have c0 : V.cell? ⟨w.heap.size + 1 + 1, 0, none⟩ = some (.slice A (64 * N) c) := (one_cell ((hR.block _ (Array.getElem?_eq_some_iff.1 HBX.out).1).trans HBX.out)).1
        go_simp
        exact ⟨_, rfl, rfl, Below.refl _ _⟩
      · intro a V hR hoff hd
        left
        refine ⟨rfl, ?_⟩
        have e0 : a.tmps.getD 3 undef = .pointer (some ⟨w.heap.size + 1, 0, none⟩) := hoff.slot 3 (no_dst (by kernel_rfl))
        obtain ⟨c0, c1⟩ := two_cells ((hR.block _ (Array.getElem?_eq_some_iff.1 HSB.out).1).trans HSB.out)
        go_simp
        exact ⟨_, rfl, rfl, Below.refl _ _⟩
      · intro a V hR hoff hd
        left
        refine ⟨rfl, ?_⟩
        have e0 : a.tmps.getD 22 undef = .agg #[.int .i64 f, .int .i64 t] := hd 1 _ rfl rfl
        go_simp
        refine (spsize_any f t V hf0 (by omega) ht0 (by omega)).mono ?_
        rintro e V2 ⟨rfl, hb2⟩
        exact ⟨_, rfl, by rw [HTF.out]; rfl, hb2⟩
      · intro a V hR hoff hd
        left
        refine ⟨rfl, ?_⟩
        have e0 : a.tmps.getD 21 undef = .slice A (64 * N) c := hd 0 _ rfl rfl
        have e1 : a.tmps.getD 23 undef = .int .i64 (n : Int) := hd 2 _ rfl rfl
        have hnc : n ≤ c := by omega
        go_simp
        exact ⟨_, rfl, rfl, Below.refl _ _⟩
      · intro a V hR hoff hd
        left
        refine ⟨rfl, ?_⟩
        have e0 : a.tmps.getD 24 undef = .slice A n c := hd 3 _ rfl rfl
        go_simp
        exact ⟨_, rfl, rfl, Below.refl _ _⟩
    · intro a V hR hoff hd
      have e4 : a.tmps.getD 4 undef = .slice A n c := hd 4 _ rfl
      have hdf := hoff.defers
      rename_i hK
      refine hK _ _ ?_
      go_wp2
      have hDV : V.heap[D]? = some (.deferred (some [])) := (hR.block _ (Array.getElem?_eq_some_iff.1 HDF.out).1).trans HDF.out
      have hbV : Below w.heap.size w V := HBE.out.drew.trans (hR.mono HBE.out.size)
      show LeavesInM _ _ _ _ a.tmps _ a.defers _ _
      rw [hdf]
      refine ⟨by simp, .inl ⟨_, _, rfl, run_takeDeferred hDV, ?_⟩⟩
      refine ⟨_, results_tmp rfl _ _ _, A, c, by rw [e4], ?_, ?_⟩
      · exact (HHO.out.below (w' := V) ((Below.refl _ _).drew.trans hR)).put hDV rfl
      · exact Below.calm hbV (Calm.put _ hDV rfl (by simp at hD; omega)) (Nat.le_refl _)
end Go.Proofs.Ytbfhlleipeipbaa
