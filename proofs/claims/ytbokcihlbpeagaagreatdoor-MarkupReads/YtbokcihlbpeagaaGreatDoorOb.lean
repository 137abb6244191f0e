/-
  What is proved: MarkupReads answers true, and each argument reads behind the call as before it, for every input (the first form of the statement; the card). No condition.
-/
import Derived.Test.YtbokcihlbpeagaaGreatDoorRows
import Derived.Test.YtbokcihlbpeagaaGreatDoorBase
import Derived.ProofKit
import Derived.OpenShut
import Derived.ShutString
import Derived.ChangeOld
import Derived.JoinedCond
import Derived.SizedLaws
import Derived.Test.YtbokcihlbpeagaaGreatDoorNw
import Derived.Deep.Cut
import Derived.Deep.CutRange
import Derived.Test.YtbokcihlbpeagaaGreatDoorKc
import Derived.Test.YtbokcihlbpeagaaGreatDoorRy
import Derived.Test.YtbokcihlbpeagaaGreatDoorCards
import Derived.Test.YtbokcihlbpeagaaGreatDoorTie
import Derived.LaidMore
import Derived.WalkKit
import Derived.Deep.DeepHandedRow
import Derived.Deep.DeepWitnessRowRef
/- What is proved: how a slice of bytes that comes in reads, and what the bound on what comes in says of its length. No condition but those in each statement. -/
namespace Go.Proofs.YtbokcihlbpeagaaGreatDoor
open Go.ChangeShapes Go.WideShapes Go.ChangeAt Go.RowKit
open Go.ChangeMaps (open_string shut_string)

theorem own : ownKnob Tryz.prog.godebug = none := by kernel_rfl
theorem laidOut : laidOutB Tryz.prog = true := by kernel_rfl

/-- what a slice's datum says of its length -/
def Len {H : Type} (d : DataW H) (n c : Nat) : Prop := (d = .nil ∧ n = 0 ∧ c = 0) ∨ ∃ e s, d = .slice e s ∧ e.length = n ∧ e.length + s.length = c

theorem open_hold {H : Type} {enc : TypeId × Value → H} {W : World} {A : Option Addr} {n c : Nat} {d : DataW H} {p : List MemPlace} (h : DataW.Trod enc Tryz.prog W 0 (fun _ => true) true 42 (.slice A n c) d p) :
    ∃ l, Hold W A n c l ∧ Len d n c := by
  obtain ⟨fuel, hf⟩ := h
  rcases open_ints Tryz.underlying42 Tryz.underlying5 (by kernel_rfl) hf with ⟨hcs, hx⟩ | ⟨x, n', c', zs, hcs, _, hl, hm, hz, hx, hcell, hwz⟩
  · simp [Value.cells] at hcs
    obtain ⟨rfl, rfl, rfl⟩ := hcs
    exact ⟨[], Hold.nil _, .inl ⟨by injection hx, rfl, rfl⟩⟩
  · simp [Value.cells] at hcs
    obtain ⟨rfl, rfl, rfl⟩ := hcs
    simp only [if_true] at hz
    have hd : d = .slice (lits .u8 (zs.take n)) (lits .u8 (zs.drop n)) := by injection hx
    have hb : ∀ j (hj : j < zs.length), 0 ≤ zs[j] ∧ zs[j] ≤ 255 := fun j hj => bounds_u8 (hwz _ (List.getElem_mem hj))
    refine ⟨(zs.take n).map (fun z => UInt8.ofNat z.toNat), ⟨by simp; omega, hl, (fun e => by cases e), fun hn => ?_⟩, .inr ⟨_, _, hd, by simp [lits]; omega, by simp [lits]; omega⟩⟩
    obtain ⟨b, off, spot⟩ := x
    have hs : spot = none := by
      have := World.cell?_spot (hcell 0 (by omega))
      simpa [Addr.add] using this
    subst hs
    refine ⟨b, off, rfl, fun j hj => ?_⟩
    have hj' : j < zs.length := by simp at hj; omega
    have hc := hcell j hj'
    rw [Addr.add_lit] at hc
    rw [hc]
    have hbj := hb j hj'
    have e1 : zs.getD j 0 = zs[j] := by simp [List.getD, hj']
    rw [e1]
    simp only [List.getElem_map, List.getElem_take]
    congr 2
    simp only [UInt8.toNat_ofNat']
    omega

/-! ### what the bound says -/
theorem bulk_one {H : Type} (d : DataW H) : 1 ≤ Rows.uptoBulk d := by
  cases d with
  | lit l => cases l <;> simp [Rows.uptoBulk]
  | nil => simp [Rows.uptoBulk]
  | ptr d => simp [Rows.uptoBulk]
  | slice e s => simp [Rows.uptoBulk]
  | agg parts => simp [Rows.uptoBulk]
  | iface t d => simp [Rows.uptoBulk]
  | map es => simp [Rows.uptoBulk]
  | held h => simp [Rows.uptoBulk]
theorem bulk_list {H : Type} (l : List (DataW H)) : l.length ≤ Rows.uptoBulkAll l := by
  induction l with
  | nil => simp [Rows.uptoBulkAll]
  | cons x r ih =>
    have := bulk_one x
    simp only [Rows.uptoBulkAll, List.length_cons]
    omega
theorem bulk_len {H : Type} {d : DataW H} {n c : Nat} (h : Len d n c) : n + 1 ≤ Rows.uptoBulk d := by
  rcases h with ⟨rfl, rfl, rfl⟩ | ⟨e, s, rfl, rfl, _⟩
  · simp [Rows.uptoBulk]
  · have := bulk_list e
    simp only [Rows.uptoBulk]
    omega
theorem bulk_string {H : Type} (s : ByteArray) : Rows.uptoBulk (DataW.lit (H := H) (.string s.data.toList)) = s.size + 1 := by
  have e : s.data.toList.length = s.size := by rw [Array.length_toList]; rfl
  simp only [Rows.uptoBulk, e]
theorem bulk_le {H : Type} {l : List (DataW H)} (hk : Rows.uptoSmall H l = true) : Rows.uptoBulkAll l ≤ 1048576 := of_decide_eq_true hk

end Go.Proofs.YtbokcihlbpeagaaGreatDoor

/- What is proved: what the document's Marks needs beside its functions: what is found or not, texts, marks that are put behind others in a plain line, what stands while the document is read. Conditions: those in each statement. -/
namespace Go.Proofs.YtbokcihlbpeagaaGreatDoor
open Go.RowKit

theorem tl_zero (s : ByteArray) : tl s 0 = s.data.toList := rfl
theorem textO_code {l : List UInt8} {d : Nat} {c : Int} (h : textO l = .bad d c) : c ≠ 0 := by
  unfold textO at h
  cases hq : loop stopT (fun _ => pieceO) 0 l with
  | ok a n => rw [hq] at h; cases h
  | bad d' c' =>
    rw [hq] at h; cases h
    exact loopF_code (P := fun c => c ≠ 0) (fun _ _ _ _ => pieceO_code) _ _ _ _ _ hq
  | un => rw [hq] at h; cases h
theorem pieceO_not {l : List UInt8} : pieceO l ≠ .un := by
  unfold pieceO
  split
  · exact refO_not
  · split <;> simp
theorem loopF_not {α : Type} {stop : List UInt8 → Bool} {step : Nat → List UInt8 → Out α} (H : ∀ k l, step k l ≠ .un) (m : Nat) :
    ∀ (k : Nat) (l : List UInt8), loopF stop step m k l ≠ .un := by
  induction m with
  | zero => intro k l h; cases h
  | succ m ih =>
    intro k l h
    rw [loopF] at h
    split at h
    · cases h
    · cases hq : step k l with
      | ok a n =>
        rw [hq] at h
        simp only at h
        cases hr : loopF stop step m (k + n) (l.drop n) with
        | ok bs j => rw [hr] at h; cases h
        | bad d' c' => rw [hr] at h; cases h
        | un => exact ih _ _ hr
      | bad d' c' => rw [hq] at h; cases h
      | un => exact H _ _ hq
theorem textO_not (l : List UInt8) : textO l ≠ .un := by
  unfold textO
  cases hq : loop stopT (fun _ => pieceO) 0 l with
  | ok a n => intro h; cases h
  | bad d' c' => intro h; cases h
  | un => exact absurd hq (loopF_not (fun _ _ => pieceO_not) _ _ _)
theorem textO_some {l t : List UInt8} {n : Nat} (hs : stopT l = false) (h : textO l = .ok t n) : t ≠ [] := by
  have hl : l ≠ [] := by rintro rfl; exact absurd hs (by decide)
  unfold textO at h
  cases hp : pieceO l with
  | ok a m =>
    rw [loop_ok goodT hs hp] at h
    have ha := (pieceO_le hl hp).2.2
    cases hr : loop stopT (fun _ => pieceO) (0 + m) (l.drop m) with
    | ok bs j =>
      rw [hr] at h
      cases h
      simp [ha]
    | bad d c => rw [hr] at h; cases h
    | un => rw [hr] at h; cases h
  | bad d c => rw [loop_bad hs hp] at h; cases h
  | un => rw [loop_un hs hp] at h; cases h
/-- what find gives is what upO says -/
theorem up_none {s p : ByteArray} {k : Nat} (h : findV s p k < 0) : upO p.data.toList (tl s k) = .un := by
  unfold findV at h
  have := Lib.index_ge (tl s k) p.data.toList
  unfold upO
  by_cases h1 : Lib.index (tl s k) p.data.toList = -1
  · rw [if_neg (by omega)]
  · rw [if_neg h1] at h; omega
theorem up_some {s p : ByteArray} {k : Nat} (hk : k ≤ s.size) (h : ¬ findV s p k < 0) : ∃ e : Nat, findV s p k = (e : Int) ∧ k ≤ e ∧ e + p.size ≤ s.size ∧ upO p.data.toList (tl s k) = .ok ((tl s k).take (e - k)) (e - k + p.size) := by
  unfold findV at h ⊢
  have h0 := Lib.index_ge (tl s k) p.data.toList
  by_cases h1 : Lib.index (tl s k) p.data.toList = -1
  · rw [if_pos h1] at h; omega
  · have h2 : 0 ≤ Lib.index (tl s k) p.data.toList := by omega
    have h3 := Lib.index_room (tl s k) p.data.toList h2
    rw [tl_length] at h3
    rw [if_neg h1]
    refine ⟨k + (Lib.index (tl s k) p.data.toList).toNat, by push_cast; omega, by omega, by have := size_data p; omega, ?_⟩
    unfold upO
    rw [if_pos h2, Nat.add_sub_cancel_left, size_data p]
theorem decl_long {l : List UInt8} (h : declB l = true) : 5 < l.length := by
  unfold declB at h
  rw [Bool.and_eq_true] at h
  have := isW_pos h.2
  rw [List.length_drop] at this
  omega
theorem decl_index {l : List UInt8} (h : declB l = true) : Lib.index l [63, 62] = if Lib.index (l.drop 5) [63, 62] = -1 then -1 else Lib.index (l.drop 5) [63, 62] + 5 := by
  have hl := decl_long h
  unfold declB at h
  rw [Bool.and_eq_true] at h
  have hp : [60, 63, 120, 109, 108].isPrefixOf l = true := h.1
  obtain ⟨t, rfl⟩ := List.isPrefixOf_iff_prefix.1 hp
  have hn : Lib.NoOcc ([60, 63, 120, 109, 108] ++ t) [63, 62] 5 := by
    intro j hj
    have : j = 0 ∨ j = 1 ∨ j = 2 ∨ j = 3 ∨ j = 4 := by omega
    rcases this with rfl | rfl | rfl | rfl | rfl <;> (simp only [Lib.occAt]; rfl)
  rw [Lib.index_drop hn (by omega)]
  by_cases h1 : Lib.index (([60, 63, 120, 109, 108] ++ t).drop 5) [63, 62] = -1
  · rw [h1]; rfl
  · rw [if_neg h1, if_neg (by simpa using h1)]; rfl
/-- the declaration, by what find gives behind its first five bytes -/
theorem declO_none {s : ByteArray} (h : declB (tl s 0) = true) (hf : findV s ⟨#[63, 62]⟩ 5 < 0) : declO (tl s 0) = .un := by
  have h2 := up_none hf
  unfold declO
  rw [if_pos h]
  have h3 : upO [63, 62] (tl s 0) = .un := by
    have h4 := Lib.index_ge ((tl s 0).drop 5) [63, 62]
    unfold upO at h2 ⊢
    rw [decl_index h]
    rw [tl_drop, Nat.zero_add] at *
    have : ¬ 0 ≤ Lib.index (tl s 5) [63, 62] := by
      intro h5
      rw [if_pos h5] at h2
      cases h2
    rw [if_neg (by split <;> omega)]
  rw [h3]; rfl
theorem declO_some {s : ByteArray} (h : declB (tl s 0) = true) {e : Nat} (hf : findV s ⟨#[63, 62]⟩ 5 = (e : Int)) : declO (tl s 0) = .ok () (e + 2) ∧ e + 2 ≤ s.size := by
  have hl := decl_long h
  rw [tl_length] at hl
  obtain ⟨e', h1, h2, h3, h4⟩ := up_some (s := s) (p := ⟨#[63, 62]⟩) (k := 5) (by omega) (by rw [hf]; omega)
  obtain rfl : e' = e := by rw [hf] at h1; omega
  refine ⟨?_, h3⟩
  unfold declO
  rw [if_pos h]
  have h5 : Lib.index (tl s 5) [63, 62] = ((e' - 5 : Nat) : Int) := by
    unfold findV at hf
    by_cases h1 : Lib.index (tl s 5) [63, 62] = -1
    · rw [if_pos h1] at hf; omega
    · rw [if_neg h1] at hf
      have : ((5 : Nat) : Int) + Lib.index (tl s 5) [63, 62] = (e' : Int) := hf
      omega
  have h6 : Lib.index (tl s 0) [63, 62] = (e' : Int) := by
    rw [decl_index h, tl_drop, Nat.zero_add, h5, if_neg (by omega)]
    omega
  unfold upO
  rw [h6, if_pos (by omega)]
  rfl
theorem declO_no {s : ByteArray} (h : declB (tl s 0) = false) : declO (tl s 0) = .ok () 0 := by unfold declO; rw [if_neg (by simp [h])]

theorem cells_one (m : Mk) {av : Value} (h : av.oneCell' = true) : ∀ u ∈ mkC (m, av), u.oneCell' = true := by
  intro u hu
  simp only [mkC, List.mem_cons, List.not_mem_nil, or_false] at hu
  rcases hu with rfl | rfl | rfl | rfl | rfl | rfl
  · rfl
  · rfl
  · exact h
  · rfl
  · rfl
  · rfl
/-- a mark is put behind others, in a plain line -/
theorem wpList_append_mk {w : World} {ops : Array Oper} {rest : List Oper} {o : Oper} {a : Act} {Q : Exit → Act → World → Prop} (hgd : o.guard = none) (s x : Operand)
    (ho : o.op = .call { callee := .builtin .append, args := #[s, x], argTypes := #[22, 22] })
    (base : Nat) (v : Value) (zz : List (Mk × Value)) (m : Mk) (av : Value) (b : Nat) (hs : a.eval s = v) (hown : MR w base v zz) (hx : a.eval x = .slice (some ⟨b, 0, none⟩) 1 1)
    (hb : w.heap[b]? = some (.cells (mkC (m, av)).toArray 36 (0, 0))) (hA : AR w base av m.attrs) (hap : ∀ z ∈ zz, z.2.ownBlock = none ∨ z.2.ownBlock ≠ av.ownBlock) (hn : zz.length ≤ 65536) (hbase : base ≤ w.heap.size)
    (h : ∀ A' c' w', MR w' base (.slice A' (zz.length + 1) c') (zz ++ [(m, av)]) → w.grownBy w' v.ownBlock → wpList Tryz.prog ops Q rest (a.put o.dst (.slice A' (zz.length + 1) c')) w') : wpList Tryz.prog ops Q (o :: rest) a w := by
  obtain ⟨i0, hi0, hz0, hz1, hz2⟩ := info_parts Tryz.infoMk
  refine wpList_append_own w hgd s x 22 ho base 36 i0 _ 6 80 Tryz.underlying22 hi0 hz0 hz1 hz2 rfl (by decide) v zz.length (mkCells zz) hs hown.row ⟨b, 0, none⟩ 1 1 (mkC (m, av)) hx rfl
    (World.news_of_block (cs := (mkC (m, av)).toArray) (t := 36) (fr := (0, 0)) hb) (cells_one m (own_one hA)) (by unfold maxLen; omega) (by omega) hbase ?_
  intro v' w' hown' hgrow _
  obtain ⟨A', c', rfl⟩ := own_slice hown'
  have hatt : ∀ (u : Value) (l : List At3), AR w base u l → AR w' base u l := fun u l hv => hv.keep fun b cur _ hb => by
    refine hgrow.block b (heap_lt hb) (fun e => ?_)
    obtain ⟨cur2, h1, _⟩ := own_at hown.row e.symm
    rw [hb] at h1
    simp at h1
  refine h A' c' w' ⟨?_, ?_, ?_⟩ hgrow
  · rw [mkCells_snoc, List.length_append]
    exact hown'
  · intro z hz
    rcases List.mem_append.1 hz with hz | hz
    · exact hatt _ _ (hown.att z hz)
    · obtain rfl := List.mem_singleton.1 hz
      exact hatt _ _ hA
  · rw [List.pairwise_append]
    exact ⟨hown.apart, List.pairwise_singleton _ _, fun a ha b hb => by obtain rfl := List.mem_singleton.1 hb; exact hap a ha⟩
theorem MR.below {w w' : World} {B : Nat} {v : Value} {zs : List (Mk × Value)} (h : MR w B v zs) (hb : Below w.heap.size w w') : MR w' B v zs :=
  h.keep fun b _ _ _ _ he => hb.block b (heap_lt he)
theorem MR.far {w : World} {B q : Nat} {v : Value} {zs : List (Mk × Value)} {cs : Array Value} (h : MR w B v zs) (hx : Bx 27 w q cs) (j : Nat) (u : Value) : MR (w.setCell ⟨q, j, none⟩ u) B v zs :=
  h.keep fun b cur t ht _ hb => Below.heap_setCell _ _ _ _ (by
    intro e
    simp only at e
    subst e
    unfold Bx at hx
    rw [hx] at hb
    simp only [Option.some.injEq, Obj.cells.injEq] at hb
    rcases ht with rfl | rfl <;> exact absurd hb.2.1 (by decide))
theorem MR.ne {w : World} {B : Nat} {v : Value} {zs : List (Mk × Value)} (h : MR w B v zs) {q : Nat} (hq : q < B) : v.ownBlock ≠ some q := fun e => by
  have := (h.row.lt q e).1
  omega
theorem AR.nil (w : World) (B : Nat) : AR w B (.slice none 0 0) [] := World.ownsRow_nil _ _ _ _
theorem apart_nil (zz : List (Mk × Value)) : ∀ z ∈ zz, z.2.ownBlock = none ∨ z.2.ownBlock ≠ (Value.slice none 0 0).ownBlock := by
  intro z _
  cases h : z.2.ownBlock with
  | none => exact .inl rfl
  | some b => exact .inr (by simp [Value.ownBlock])
/-- what stands while the document is read -/
structure DB (w W : World) (mv : Value) (zz : List (Mk × Value)) : Prop where
  b3 : Bx 27 W w.heap.size #[.int .i64 0, .int .i64 0]
  bel : Below w.heap.size w W
  row : MR W (w.heap.size + 1) mv zz
/-- behind the mark's ways: what it is, or its fault -/
def CutR (wr : World) (s : ByteArray) (i : Nat) (zz : List (Mk × Value)) (v6 : Value) (wc : World) : Prop :=
  Below wr.heap.size wr wc ∧
  ((∃ (x : Nat) (c z : Int), failO i i (stepD i (tl s i)) = some (x, c) ∧ c ≠ 0 ∧ Bx 27 wc (wr.heap.size + 1) #[.int .i64 (x : Int), .int .i64 c] ∧ v6 = .int .i64 z) ∨
   (∃ (m : Mk) (av : Value) (o : Option Mk) (n i2 : Nat), stepD i (tl s i) = .ok o n ∧ i + n = i2 ∧ (o = some m ∧ (m.kind ≠ 3 ∨ m.text ≠ []) ∨ o = none ∧ m.kind = 3 ∧ m.text = []) ∧ v6 = .int .i64 (i2 : Int) ∧
     Bx 36 wc wr.heap.size (mkC (m, av)).toArray ∧ Bx 27 wc (wr.heap.size + 1) #[.int .i64 0, .int .i64 0] ∧ AR wc wr.heap.size av m.attrs ∧ ∀ z ∈ zz, z.2.ownBlock = none ∨ z.2.ownBlock ≠ av.ownBlock))
/-- what the document's Marks answers -/
def MxPost (w : World) (r : List Mk ⊕ (Nat × Int)) (e : Ending) (w' : World) : Prop := Below w.heap.size w w' ∧ match r with
  | .inl ms => ∃ mv B zs, zs.map Prod.fst = ms ∧ e = .returned (.tuple #[mv, noF]) ∧ w.heap.size ≤ B ∧ MR w' B mv zs
  | .inr (x, c) => e = .returned (.tuple #[.slice none 0 0, fltV x c])
/-- worlds of a line that loads a fault, assigns, and stores it -/
def rt1 (k : Nat) (V C : World) (ls : Nat → Bool) : World := if ls k = true then C else V
section
variable {k : Nat} {V C : World} {ls : Nat → Bool}
theorem rt1_k (h : ls k = true) : rt1 k V C ls = C := by unfold rt1; rw [if_pos h]
theorem rt1_0 (h : ls k = false) : rt1 k V C ls = V := by unfold rt1; rw [if_neg (by simp [h])]
end
theorem MxPost.bad {w w' : World} {r : List Mk ⊕ (Nat × Int)} {x : Nat} {c : Int} (hr : r = .inr (x, c)) (hb : Below w.heap.size w w') : MxPost w r (.returned (.tuple #[.slice none 0 0, fltV x c])) w' := by
  subst hr; exact ⟨hb, rfl⟩
theorem chkO_code {l : List UInt8} {x : Nat} {c : Int} (hc : chkO l = some (x, c)) : c ≠ 0 := by
  unfold chkO at hc
  split at hc
  · cases hc; decide
  split at hc
  · cases hc; decide
  cases hq : chO l 0 with
  | none => rw [hq] at hc; cases hc
  | some k => rw [hq] at hc; cases hc; decide
/-- so much of the document has been read, as these marks -/
def RunD (s : ByteArray) (n j : Nat) (zs : List (Option Mk)) : Prop := Run (fun l => l.isEmpty) (fun k l => (stepD k l).fin) n (tl s n) j zs
section
variable {s : ByteArray} {n j : Nat} {zs : List (Option Mk)}
theorem tl_more (hlt : n + j < s.size) : ((tl s n).drop j).isEmpty = false := by
  rw [tl_drop]
  have := (tl_nil (s := s) (k := n + j) (by omega)).1
  cases h : tl s (n + j) with
  | nil => have := this h; omega
  | cons a t => rfl
theorem RunD.on (h : RunD s n j zs) (hlt : n + j < s.size) {o : Option Mk} {m : Nat} (hx : stepD (n + j) (tl s (n + j)) = .ok o m) : RunD s n (j + m) (zs ++ [o]) :=
  Run.on goodD h (tl_more hlt) (by rw [tl_drop, hx]; rfl)
theorem marksO_loop (hd : declO (tl s 0) = .ok () n) : marksO (tl s 0) = ((loop (fun l => l.isEmpty) (fun k l => (stepD k l).fin) n (tl s n)).map (List.filterMap id)).on n := by
  unfold marksO docO
  rw [hd]
  show ((loop _ _ n ((tl s 0).drop n)).map (List.filterMap id)).on n = _
  rw [tl_drop, Nat.zero_add]
theorem resO_un (hc : chkO s.data.toList = none) (hd : declO (tl s 0) = .un) : resO s.data.toList = .inr (0, 84) := by
  have : marksO (tl s 0) = .bad 0 84 := by unfold marksO; rw [hd]; rfl
  rw [tl_zero] at this
  unfold resO; rw [hc, this]
theorem resO_ok (hc : chkO s.data.toList = none) (hd : declO (tl s 0) = .ok () n) (h : RunD s n j zs) (he : n + j = s.size) : resO s.data.toList = .inl (zs.filterMap id) := by
  have : marksO (tl s 0) = .ok (zs.filterMap id) (j + n) := by
    rw [marksO_loop hd, Run.done h (by rw [tl_drop, (tl_nil (by omega)).2 he]; rfl)]; rfl
  rw [tl_zero] at this
  unfold resO; rw [hc, this]
theorem resO_bad (hc : chkO s.data.toList = none) (hd : declO (tl s 0) = .ok () n) (h : RunD s n j zs) (hlt : n + j < s.size) {x : Nat} {c : Int} (hx : failO (n + j) (n + j) (stepD (n + j) (tl s (n + j))) = some (x, c)) : resO s.data.toList = .inr (x, c) := by
  have hb : ∃ d, (stepD (n + j) (tl s (n + j))).fin = .bad d c ∧ n + j + d = x := by
    cases hq : stepD (n + j) (tl s (n + j)) with
    | ok a m => rw [hq] at hx; cases hx
    | bad d y => rw [hq] at hx; cases hx; exact ⟨d, rfl, rfl⟩
    | un => rw [hq] at hx; cases hx; exact ⟨0, rfl, rfl⟩
  obtain ⟨d, h1, h2⟩ := hb
  have : marksO (tl s 0) = .bad (d + j + n) c := by
    rw [marksO_loop hd, Run.bad h (tl_more hlt) (by rw [tl_drop]; exact h1)]; rfl
  rw [tl_zero, show d + j + n = x by omega] at this
  unfold resO; rw [hc, this]
end
theorem flat_plain (l : List UInt8) : flatV false l = flat1 l := by
  unfold flatV
  rw [show bl false = id from funext bl_f, List.map_id]
theorem flat_some {l : List UInt8} (h : l ≠ []) : flat1 l ≠ [] := by
  cases l with
  | nil => exact absurd rfl h
  | cons b t =>
    by_cases hb : b = 13
    · subst hb
      cases t with
      | nil => simp [flat1]
      | cons c u =>
        by_cases hc : c = 10
        · subst hc; simp [flat1]
        · rw [flat1_cr (show hd (c :: u) ≠ 10 from fun e => hc (UInt8.toNat_inj.1 e))]; simp
    · rw [flat1_b hb]; simp
theorem endO_ok {f n : Nat} {l : List UInt8} {m : Mk} (h : endO f l = .ok m n) : m.attrs = [] ∧ m.kind = 2 := by
  unfold endO at h
  obtain ⟨a, i, j, _, h2, _⟩ := Out.seq_ok h
  obtain ⟨b, i2, j2, _, h3, _⟩ := Out.seq_ok h2
  obtain ⟨u, _, rfl⟩ := Out.map_ok h3
  exact ⟨rfl, rfl⟩
theorem startO_ok {f k n : Nat} {l : List UInt8} {m : Mk} (h : startO f k l = .ok m n) : m.kind = 1 := by
  unfold startO at h
  obtain ⟨a, i, j, _, h2, _⟩ := Out.seq_ok h
  obtain ⟨b, i2, j2, _, h3, _⟩ := Out.seq_ok h2
  obtain ⟨u, _, rfl⟩ := Out.map_ok h3
  rfl
end Go.Proofs.YtbokcihlbpeagaaGreatDoor

/- What is proved: contract of the document's Marks. Conditions: those in each statement. -/
namespace Go.Proofs.YtbokcihlbpeagaaGreatDoor
open Go.RowKit

set_option maxHeartbeats 4000000 in
set_option maxRecDepth 100000 in
theorem dMarks_chk (s : ByteArray) (hl : s.size ≤ 140737488355328) {a : Nat} {c : Int} (hc : chkO s.data.toList = some (a, c)) (w : World) :
    Calls Tryz.prog 7 #[.string s] w (MxPost w (resO s.data.toList)) := by
  have HC := Lib.hid (dCheck_any s hl)
  rw [hc] at HC
  have HC2 : Hid (∀ W : World, Calls Tryz.prog 22 #[.string s] W fun e w' => e = .returned (.agg #[.int .i64 (a : Int), .int .i64 c]) ∧ Below W.heap.size W w') := HC
  have HX : Hid (resO s.data.toList = .inr (a, c)) := Lib.hid (by unfold resO; rw [hc])
  have hcn := chkO_code hc
  have hcz : (c == 0) = false := beq_eq_false_iff_ne.2 hcn
  have hcz2 : (c != 0) = true := bne_iff_ne.2 hcn
  clear HC hc hcn
  go_enter Tryz.func7, Tryz.ntmps7
  go_wp2_with (go_at_call 22; refine (HC2.out _).mono ?_; rintro e w1 ⟨rfl, hb1⟩)
  have hsz := hb1.size
  have hsz2 : (w.alloc (.cells #[.int .i64 0, .int .i64 0] 27)).heap.size = w.heap.size + 1 := by simp
  rw [hsz2] at hsz
  have hx3 : Bx 27 (w1.alloc (.cells #[.int .i64 (a : Int), .int .i64 c] 27)) w.heap.size #[.int .i64 0, .int .i64 0] := ((Bx.new w 27 #[.int .i64 0, .int .i64 0]).below hb1 (by simp)).alloc _
  have hx4 : Bx 27 (w1.alloc (.cells #[.int .i64 (a : Int), .int .i64 c] 27)) w1.heap.size #[.int .i64 (a : Int), .int .i64 c] := Bx.new w1 27 #[.int .i64 (a : Int), .int .i64 c]
  have hbel : Below w.heap.size w (w1.alloc (.cells #[.int .i64 (a : Int), .int .i64 c] 27)) := (((Below.refl _ _).alloc (Nat.le_refl _) _).trans (hb1.mono (by simp))).alloc (by omega) _
  clear hb1
  generalize w1.alloc (.cells #[.int .i64 (a : Int), .int .i64 c] 27) = W5 at *
  generalize w1.heap.size = b4 at *
  obtain ⟨V, hV⟩ : ∃ V, V = W5.drew := ⟨_, rfl⟩
  have v3 : Bx 27 V w.heap.size #[.int .i64 0, .int .i64 0] := by rw [hV]; exact hx3
  have v4 : Bx 27 V b4 #[.int .i64 (a : Int), .int .i64 c] := by rw [hV]; exact hx4
  have vb : Below w.heap.size w V := by rw [hV]; exact Below.drew hbel
  obtain ⟨C, hC⟩ : ∃ C, C = ((V.setCell ⟨w.heap.size, 0, none⟩ (.int .i64 (a : Int))).setCell ⟨w.heap.size, 1, none⟩ (.int .i64 c)) := ⟨_, rfl⟩
  have c3 : Bx 27 C w.heap.size #[.int .i64 (a : Int), .int .i64 c] := by rw [hC]; exact (v3.set 0 (.int .i64 (a : Int))).set 1 (.int .i64 c)
  have cb : Below w.heap.size w C := by rw [hC]; exact Below.setCell (Below.setCell vb (p := ⟨w.heap.size, 0, none⟩) (Nat.le_refl _) _) (p := ⟨w.heap.size, 1, none⟩) (Nat.le_refl _) _
  have V3 := Lib.hid v3
  have V4 := Lib.hid v4
  have CE := Lib.hid (And.intro c3 cb)
  have HV := Lib.hid hV
  have HC9 := Lib.hid hC
  clear v3 v4 vb c3 cb hV hC hx3 hx4 hbel
  refine wp_region_chain (fun n => (#[.agg #[.int .i64 (a : Int), .int .i64 c], .slice none 0 0, undef] : Array Value).getD n undef) (rt1 2 V C) (by kernel_rfl) (by kernel_rfl) (by rw [HV.out]; rfl) ?_ ?_
  · refine ⟨?_, ?_, ?_, trivial⟩
    · intro a0 ls hcl hi hd hoff hf
      left
      refine ⟨rfl, ?_⟩
      have e0 : a0.tmps.getD 4 undef = .pointer (some ⟨b4, 0, none⟩) := hoff.slot 4 (no_dst (by kernel_rfl))
      have h2 : ls 2 = false := hcl.no hi rfl rfl
      have k0 : (rt1 2 V C ls).cell? ⟨b4, 0, none⟩ = some (.int .i64 (a : Int)) := by rw [rt1_0 h2]; exact V4.out.c (j := 0) rfl
      have k1 : (rt1 2 V C ls).cell? ⟨b4, 1, none⟩ = some (.int .i64 c) := by rw [rt1_0 h2]; exact V4.out.c (j := 1) rfl
      go_simp
      all_goals first | exact ⟨rfl, rfl⟩ | exact rfl
    · intro a0 ls hcl hi hd hoff hf
      left
      refine ⟨rfl, ?_⟩
      go_simp
      all_goals first | exact ⟨rfl, rfl⟩ | exact rfl
    · intro a0 ls hcl hi hd hoff hf
      left
      refine ⟨rfl, ?_⟩
      have e0 : a0.tmps.getD 3 undef = .pointer (some ⟨w.heap.size, 0, none⟩) := hoff.slot 3 (no_dst (by kernel_rfl))
      have e1 : a0.tmps.getD 18 undef = .agg #[.int .i64 (a : Int), .int .i64 c] := hf 0 _ (hd 0 rfl) rfl
      have hw : rt1 2 V C (updB ls 2) = C := rt1_k rfl
      rw [hw, rt1_0 hi]
      have k0 := V3.out.c (j := 0) rfl
      have z0 := V3.out.fz 0
      have k1 := V3.out.c (j := 1) rfl
      have z1 := V3.out.fz 1
      have hCC := HC9.out
      go_simp
      all_goals first | exact ⟨rfl, hCC.symm⟩ | exact hCC.symm
  · intro a0 ls hl hoff hf
    rw [rt1_k (hl 2 (by decide))]
    rename_i hK
    have e2 : a0.tmps.getD 2 undef = .slice none 0 0 := hf 1 _ rfl
    have e3 : a0.tmps.getD 3 undef = .pointer (some ⟨w.heap.size, 0, none⟩) := hoff.slot 3 (no_dst (by kernel_rfl))
    have e2' : a0.tmps[2]?.getD undef = .slice none 0 0 := by simpa using e2
    have e3' : a0.tmps[3]?.getD undef = .pointer (some ⟨w.heap.size, 0, none⟩) := by simpa using e3
    have y0 := CE.out.1.c (j := 0) rfl
    have y1 := CE.out.1.c (j := 1) rfl
    refine hK _ _ ?_
    go_wp2
    refine bodyPost_ret (v := .tuple #[.slice none 0 0, fltV a c]) (by simp only [results, Tryz.results7]; simp [results, go_sem, e2', e3', y0, y1]) hoff.defers ?_
    exact MxPost.bad HX.out CE.out.2

set_option maxHeartbeats 8000000 in
set_option maxRecDepth 100000 in
theorem dMarks_go (s : ByteArray) (hs : s.size ≤ 65536) (hc : chkO s.data.toList = none) (w : World) :
    Calls Tryz.prog 7 #[.string s] w (MxPost w (resO s.data.toList)) := by
  have h0 : Hid (∀ b ∈ s.data.toList, b ≠ 0) := Lib.hid (good_ne (good_chk hc))
  have HC := Lib.hid (dCheck_any s (by omega))
  rw [hc] at HC
  have HC2 : Hid (∀ W : World, Calls Tryz.prog 22 #[.string s] W fun e w' => e = .returned (.agg #[.int .i64 0, .int .i64 0]) ∧ Below W.heap.size W w') := HC
  have HCK := Lib.hid hc
  clear HC hc
  go_enter Tryz.func7, Tryz.ntmps7
  go_upto_region 6 with (go_at_call 22; refine (HC2.out _).mono ?_; rintro e w1 ⟨rfl, hb1⟩)
  have hsz := hb1.size
  have hsz2 : (w.alloc (.cells #[.int .i64 0, .int .i64 0] 27)).heap.size = w.heap.size + 1 := by simp
  rw [hsz2] at hsz
  have hx3 : Bx 27 (w1.alloc (.cells #[.int .i64 0, .int .i64 0] 27)) w.heap.size #[.int .i64 0, .int .i64 0] := ((Bx.new w 27 #[.int .i64 0, .int .i64 0]).below hb1 (by simp)).alloc _
  have hbel : Below w.heap.size w (w1.alloc (.cells #[.int .i64 0, .int .i64 0] 27)) := (((Below.refl _ _).alloc (Nat.le_refl _) _).trans (hb1.mono (by simp))).alloc (by omega) _
  have hsl : w.heap.size + 1 ≤ (w1.alloc (.cells #[.int .i64 0, .int .i64 0] 27)).heap.size := by simp; omega
  clear hb1 hsz hsz2
  generalize w1.alloc (.cells #[.int .i64 0, .int .i64 0] 27) = W2 at *
  generalize w1.heap.size = b4 at *
  have HDB : Hid (DB w W2 (.slice none 0 0) []) := Lib.hid ⟨hx3, hbel, MR.nil _ _⟩
  clear hx3 hbel hsl
  obtain ⟨bD, hbD⟩ : ∃ b, b = declB (tl s 0) := ⟨_, rfl⟩
  have HBD := Lib.hid hbD
  clear hbD
  go_cut [30] from 19 to 30 (fun v30 wx => v30 = .bool bD ∧ wx = W2)
  case first =>
    have HA := Lib.hid (fun (b : Bool) (h5 : 5 < s.size) (hb : b = Lib.hasPrefix (tl s 0) [60, 63, 120, 109, 108]) (W : World) => dAt_is s ⟨#[60, 63, 120, 109, 108]⟩ 0 b hb (Nat.zero_le _) (by omega) (by show 5 ≤ 140737488355328; omega) W)
    have HD : Hid (declB (tl s 0) = (Lib.hasPrefix (tl s 0) [60, 63, 120, 109, 108] && isW (hd (tl s 5)))) := Lib.hid (by unfold declB; rw [tl_drop])
    by_cases h5 : 5 < s.size
    · have h5a : (5 : Int) < (s.size : Int) := by omega
      have h5b : ¬ ((s.size : Int) ≤ 5) := by omega
      have h5c : (s.size : Int) > 5 := by omega
      have h5d : (0 : Int) ≤ 5 := by decide
      have hW5 := hd_tl h5
      cases hp : Lib.hasPrefix (tl s 0) [60, 63, 120, 109, 108] with
      | true =>
        have HA0 : Hid (∀ W : World, Calls Tryz.prog 23 #[.string s, .int .i64 0, .string ⟨#[60, 63, 120, 109, 108]⟩] W fun e w' => e = .returned (.bool true) ∧ W = w') := Lib.hid (HA.out true h5 hp.symm)
        have HWH := Lib.hid (fun W => dWhite_is s[5].toNat (isW (hd (tl s 5))) (by rw [hW5]) W)
        have HE : Hid (bD = isW (hd (tl s 5))) := Lib.hid (by rw [HBD.out, HD.out, hp, Bool.true_and])
        clear HA HD hp hW5
        go_wp2_with (first
          | (go_at_call 23; ((with_reducible refine (HA0.out _).mono ?_); rintro e w2 ⟨rfl, rfl⟩))
          | (go_at_call 24; ((with_reducible refine (HWH.out _).mono ?_); rintro e w2 ⟨rfl, rfl⟩)))
        go_meet
        case rel => exact ⟨by rw [HE.out], rfl⟩
      | false =>
        have HA0 : Hid (∀ W : World, Calls Tryz.prog 23 #[.string s, .int .i64 0, .string ⟨#[60, 63, 120, 109, 108]⟩] W fun e w' => e = .returned (.bool false) ∧ W = w') := Lib.hid (HA.out false h5 hp.symm)
        have HE : Hid (bD = false) := Lib.hid (by rw [HBD.out, HD.out, hp, Bool.false_and])
        clear HA HD hp hW5
        go_wp2_with (first
          | (go_at_call 23; ((with_reducible refine (HA0.out _).mono ?_); rintro e w2 ⟨rfl, rfl⟩)))
        go_meet
        case rel => exact ⟨by rw [HE.out], rfl⟩
    · have h5a : ¬ (5 : Int) < (s.size : Int) := by omega
      have h5b : (s.size : Int) ≤ 5 := by omega
      have HE : Hid (bD = false) := Lib.hid (by
        rw [HBD.out]
        cases h : declB (tl s 0) with
        | false => rfl
        | true => have := decl_long h; rw [tl_length] at this; omega)
      clear HA HD
      go_wp2_with fail
      go_meet
      case rel => exact ⟨by rw [HE.out], rfl⟩
  case rest =>
  obtain ⟨rfl, rfl⟩ := hcut
  go_upto_if 30 with fail
  go_cut [6, 7] from 13 to 37 (fun v6 v7 wx => ∃ n : Nat, v6 = .int .i64 (n : Int) ∧ n ≤ s.size ∧ Aside (declO (tl s 0) = .ok () n) ∧ wx = wc)
  case first =>
    cases bD with
    | false =>
      go_wp2_with fail
      go_meet
      case rel => exact ⟨0, rfl, Nat.zero_le _, declO_no HBD.out.symm, rfl⟩
    | true =>
      have h5 : 5 < s.size := by have := decl_long HBD.out.symm; rw [tl_length] at this; omega
      obtain ⟨z, hz⟩ : ∃ z, findV s ⟨#[63, 62]⟩ 5 = z := ⟨_, rfl⟩
      have HF : Hid (∀ W : World, Calls Tryz.prog 25 #[.string s, .int .i64 5, .string ⟨#[63, 62]⟩] W fun e w' => e = .returned (.int .i64 z) ∧ W = w') := Lib.hid (dFind_any s ⟨#[63, 62]⟩ 5 z hz (by omega) hs (by show 2 ≤ 65536; omega) (by show 1 ≤ 2; omega))
      by_cases hzn : z < 0
      · have HX : Hid (resO s.data.toList = .inr (0, 84)) := Lib.hid (resO_un HCK.out (declO_none HBD.out.symm (by rw [hz]; exact hzn)))
        clear hz h5
        have hx3 := HDB.out.b3
        have hbel := HDB.out.bel
        have k0 := hx3.c (j := 0) rfl
        have k1 := hx3.c (j := 1) rfl
        have z0 := hx3.fz 0
        have z1 := hx3.fz 1
        have H3 := Lib.hid hx3
        have HB3 := Lib.hid hbel
        clear hx3 hbel
        go_wp2_with (go_at_call 25; ((with_reducible refine (HF.out _).mono ?_); rintro e w9 ⟨rfl, rfl⟩))
        have f3 := (H3.out.set 0 (.int .i64 0)).set 1 (.int .i64 84)
        have fb := Below.setCell (Below.setCell HB3.out (p := ⟨w.heap.size, 0, none⟩) (Nat.le_refl _) (.int .i64 0)) (p := ⟨w.heap.size, 1, none⟩) (Nat.le_refl _) (.int .i64 84)
        have y0 := f3.c (j := 0) rfl
        have y1 := f3.c (j := 1) rfl
        clear f3
        refine bodyPost_ret (v := .tuple #[.slice none 0 0, .agg #[.int .i64 0, .int .i64 84]]) (by simp only [results, Tryz.results7]; simp [results, go_sem, y0, y1]) rfl ?_
        exact MxPost.bad HX.out fb
      · obtain ⟨e, rfl⟩ := Int.eq_ofNat_of_zero_le (Int.not_lt.1 hzn)
        obtain ⟨hd1, hd2⟩ := declO_some HBD.out.symm hz
        have hw2 : wrap64 ((e : Int) + 2) = (e : Int) + 2 := Go.IntWalk.wrap64_in _ (by omega)
        have HD1 := Lib.hid hd1
        have he0 : (0 : Int) ≤ (e : Int) := by omega
        clear hd1 hz
        go_wp2_with (go_at_call 25; ((with_reducible refine (HF.out _).mono ?_); rintro e w9 ⟨rfl, rfl⟩))
        go_meet
        case rel => exact ⟨e + 2, by push_cast; rfl, hd2, HD1.out, rfl⟩
  case rest =>
  obtain ⟨n, rfl, hn, hdO, rfl⟩ := hcut
  have HDO : Hid (declO (tl s 0) = .ok () n) := Lib.hid hdO
  clear hdO HBD
  go_wp2_with fail
  go_loopg [5, 6, 8, 9, 10, 11, 12, 38, 39, 40, 41, 42, 43, 44, 45, 46, 47, 48, 49, 50, 51, 52, 53, 54, 55, 56, 57, 58, 59, 60, 61, 62, 63, 64, 65, 66, 67, 68, 69, 70, 71, 72, 73, 74, 75, 76, 77, 78, 79, 80, 81, 82, 83, 84, 85, 86, 87, 88, 89, 90, 91, 92, 93, 94, 95, 96, 97, 98, 99, 100, 101, 102, 103, 104, 105, 106, 107, 108, 109, 110, 111, 112, 113, 114, 115, 116, 117, 118, 119, 120, 121, 122, 123] s.size (fun kx v5 v6 _ _ _ _ _ _ _ _ _ _ _ _ _ _ _ _ _ _ _ _ _ _ _ _ _ _ _ _ _ _ _ _ _ _ _ _ _ _ _ _ _ _ _ _ _ _ _ _ _ _ _ _ _ _ _ _ _ _ _ _ _ _ _ _ _ _ _ _ _ _ _ _ _ _ _ _ _ _ _ _ _ _ _ _ _ _ _ _ _ _ _ wr => ∃ (j : Nat) (zs : List (Option Mk)) (mv : Value) (zz : List (Mk × Value)), v5 = mv ∧ v6 = .int .i64 ((n + j : Nat) : Int) ∧ n + j ≤ s.size ∧ s.size - (n + j) ≤ kx ∧ Aside (RunD s n j zs ∧ (zs.filterMap id).length ≤ j ∧ zz.map Prod.fst = zs.filterMap id) ∧ Aside (DB w wr mv zz))
  case atStart => exact ⟨0, [], _, [], rfl, rfl, hn, by omega, (show _ ∧ _ ∧ _ from ⟨Run.start _ _, Nat.le_refl _, rfl⟩), HDB.out⟩
  case round =>
    clear HDB
    obtain ⟨j, zs, mv, zz, hv5, rfl, hj, hkx, HRn, hDB⟩ := hrel
    have HRun : Hid (RunD s n j zs ∧ (zs.filterMap id).length ≤ j ∧ zz.map Prod.fst = zs.filterMap id) := Lib.hid HRn
    have HS : Hid (DB w wr mv zz) := Lib.hid hDB
    obtain rfl := hv5
    clear HRn hDB
    by_cases he : n + j = s.size
    · have HX : Hid (resO s.data.toList = .inl (zs.filterMap id)) := Lib.hid (resO_ok HCK.out HDO.out HRun.out.1 he)
      have hlt : ¬ ((n + j : Nat) : Int) < (s.size : Int) := by omega
      have hlt2 : ¬ (n : Int) + (j : Int) < (s.size : Int) := by omega
      have hlt3 : (s.size : Int) ≤ (n : Int) + (j : Int) := by omega
      clear he
      have hx3 := HS.out.b3
      have hbel := HS.out.bel
      have k0 := hx3.c (j := 0) rfl
      have k1 := hx3.c (j := 1) rfl
      have z0 := hx3.fz 0
      have z1 := hx3.fz 1
      have H3 := Lib.hid hx3
      have HB3 := Lib.hid hbel
      clear hx3 hbel
      go_wp2_with fail
      have f3 := (H3.out.set 0 (.int .i64 0)).set 1 (.int .i64 0)
      have fb := Below.setCell (Below.setCell HB3.out (p := ⟨w.heap.size, 0, none⟩) (Nat.le_refl _) (.int .i64 0)) (p := ⟨w.heap.size, 1, none⟩) (Nat.le_refl _) (.int .i64 0)
      have y0 := f3.c (j := 0) rfl
      have y1 := f3.c (j := 1) rfl
      have hrow := ((HS.out.row.far H3.out 0 (.int .i64 0)).far (H3.out.set 0 (.int .i64 0)) 1 (.int .i64 0))
      clear f3
      refine bodyPost_ret (v := .tuple #[u5, noF]) (by simp only [results, Tryz.results7]; simp [results, go_sem, y0, y1]) rfl ?_
      refine ⟨fb, ?_⟩
      rw [HX.out]
      exact ⟨_, _, zz, HRun.out.2.2, rfl, Nat.le_succ _, hrow⟩
    · skip
      have hltn : n + j < s.size := by omega
      have HBD2 : Hid (∀ (x : Nat) (c : Int), failO (n + j) (n + j) (stepD (n + j) (tl s (n + j))) = some (x, c) → resO s.data.toList = .inr (x, c)) := Lib.hid (fun x c h => resO_bad HCK.out HDO.out HRun.out.1 hltn h)
      have HON : Hid (∀ (o : Option Mk) (m : Nat), stepD (n + j) (tl s (n + j)) = .ok o m → RunD s n (j + m) (zs ++ [o]) ∧ n + (j + m) = n + j + m ∧ n + j + m ≤ s.size ∧ 1 ≤ m) := Lib.hid (fun o m h => by
        have h1 := stepD_le (fun e => by have := (tl_nil (s := s) (k := n + j) (by omega)).1 e; omega) h
        rw [tl_length] at h1
        exact ⟨HRun.out.1.on hltn h, by omega, by omega, h1.1⟩)
      obtain ⟨i, hi⟩ : ∃ i, i = n + j := ⟨_, rfl⟩
      rw [← hi] at hj hkx hltn HBD2 HON ⊢
      have hltz : (i : Int) < (s.size : Int) := by omega
      have HI := Lib.hid hi
      clear he hi
      have HA1 := Lib.hid (fun (b : Bool) (hb : b = Lib.hasPrefix (tl s i) [60, 33, 45, 45]) (W : World) => dAt_is s ⟨#[60, 33, 45, 45]⟩ i b hb hj (by omega) (by show 4 ≤ 140737488355328; omega) W)
      cases q0 : Lib.hasPrefix (tl s i) [60, 33, 45, 45] with
      | true =>
        have HA0 := Lib.hid (HA1.out true q0.symm)
        have h4 : i + 4 ≤ s.size := by have := prefix_len q0; rw [tl_length] at this; simp only [List.length_cons, List.length_nil] at this; omega
        have hw4 : wrap64 ((i : Int) + 4) = (i : Int) + 4 := Go.IntWalk.wrap64_in _ (by omega)
        obtain ⟨z, hz⟩ : ∃ z, findV s ⟨#[45, 45, 62]⟩ (i + 4) = z := ⟨_, rfl⟩
        have HF := Lib.hid (dFind_any s ⟨#[45, 45, 62]⟩ (i + 4) z hz h4 hs (by show 3 ≤ 65536; omega) (by show 1 ≤ 3; omega))
        rw [show ((i + 4 : Nat) : Int) = (i : Int) + 4 by push_cast; rfl] at HF
        have hst : stepD i (tl s i) = ((upO [45, 45, 62] (tl s (i + 4))).map fun _ => none).on 4 := by unfold stepD; rw [if_pos q0, tl_drop]
        by_cases hzn : z < 0
        · have HX : Hid (resO s.data.toList = .inr (i, 84)) := Lib.hid (HBD2.out i 84 (by
            rw [hst, show upO [45, 45, 62] (tl s (i + 4)) = .un from up_none (p := ⟨#[45, 45, 62]⟩) (by rw [hz]; exact hzn)]; rfl))
          clear hz hst q0
          have hx3 := HS.out.b3
          have hbel := HS.out.bel
          have k0 := hx3.c (j := 0) rfl
          have k1 := hx3.c (j := 1) rfl
          have z0 := hx3.fz 0
          have z1 := hx3.fz 1
          have H3 := Lib.hid hx3
          have HB3 := Lib.hid hbel
          clear hx3 hbel
          go_wp2_with (first
            | (go_at_call 23; ((with_reducible refine (HA0.out _).mono ?_); rintro e w2 ⟨rfl, rfl⟩))
            | (go_at_call 25; ((with_reducible refine (HF.out _).mono ?_); rintro e w9 ⟨rfl, rfl⟩)))
          have f3 := (H3.out.set 0 (.int .i64 (i : Int))).set 1 (.int .i64 84)
          have fb := Below.setCell (Below.setCell HB3.out (p := ⟨w.heap.size, 0, none⟩) (Nat.le_refl _) (.int .i64 (i : Int))) (p := ⟨w.heap.size, 1, none⟩) (Nat.le_refl _) (.int .i64 84)
          have y0 := f3.c (j := 0) rfl
          have y1 := f3.c (j := 1) rfl
          clear f3
          refine bodyPost_ret (v := .tuple #[.slice none 0 0, .agg #[.int .i64 (i : Int), .int .i64 84]]) (by simp only [results, Tryz.results7]; simp [results, go_sem, y0, y1]) rfl ?_
          exact MxPost.bad HX.out fb
        · obtain ⟨e, he1, he2, he3, he4⟩ := up_some (p := ⟨#[45, 45, 62]⟩) h4 (by rw [hz]; exact hzn)
          obtain rfl : z = (e : Int) := by rw [← hz]; exact he1
          have he5 : e + 3 ≤ s.size := he3
          have hw3 : wrap64 ((e : Int) + 3) = (e : Int) + 3 := Go.IntWalk.wrap64_in _ (by omega)
          have hst2 : stepD i (tl s i) = .ok none (e - (i + 4) + 3 + 4) := by
            rw [hst, show upO [45, 45, 62] (tl s (i + 4)) = _ from he4]; rfl
          have HNX := Lib.hid (HON.out _ _ hst2)
          have HK : Hid (i + (e - (i + 4) + 3 + 4) = e + 3) := Lib.hid (by omega)
          have he0 : (0 : Int) ≤ (e : Int) := by omega
          clear hz hst hst2 he1 he4 he3 q0 HON HBD2
          go_wp2_with (first
            | (go_at_call 23; ((with_reducible refine (HA0.out _).mono ?_); rintro e w2 ⟨rfl, rfl⟩))
            | (go_at_call 25; ((with_reducible refine (HF.out _).mono ?_); rintro e w9 ⟨rfl, rfl⟩)))
          go_roundg (s.size - (e + 3))
          case measure => have := HNX.out; have := HK.out; omega
          case rel => exact ⟨j + (e - (i + 4) + 3 + 4), zs ++ [none], _, zz, rfl, by rw [HNX.out.2.1, HK.out]; push_cast; rfl, by rw [HNX.out.2.1, HK.out]; exact he5, by rw [HNX.out.2.1, HK.out]; exact Nat.le_refl _, (show _ ∧ _ ∧ _ from ⟨HNX.out.1, by rw [fm_snoc]; have := HRun.out.2.1; simp; omega, by rw [fm_snoc, HRun.out.2.2]; simp⟩), HS.out⟩
      | false =>
        have HA0 := Lib.hid (HA1.out false q0.symm)
        obtain ⟨b1, hb1⟩ : ∃ b, b = Lib.hasPrefix (tl s i) [60, 33, 91, 67, 68, 65, 84, 65, 91] := ⟨_, rfl⟩
        have HA5 := Lib.hid (fun (W : World) => dAt_is s ⟨#[60, 33, 91, 67, 68, 65, 84, 65, 91]⟩ i b1 hb1 hj (by omega) (by show 9 ≤ 140737488355328; omega) W)
        have HQ1 := Lib.hid hb1
        have HQ0 := Lib.hid q0
        clear hb1 q0 HA1
        go_upto_if 58 with (first
          | (go_at_call 23; ((with_reducible refine (HA0.out _).mono ?_); rintro e w2 ⟨rfl, rfl⟩))
          | (go_at_call 23; ((with_reducible refine (HA5.out _).mono ?_); rintro e w3 ⟨rfl, rfl⟩)))
        have hx10 := (Bx.new wr 36 #[.int .i64 0, .string ⟨#[]⟩, .slice none 0 0, .bool false, .string ⟨#[]⟩, .int .i64 0]).alloc (.cells #[.int .i64 0, .int .i64 0] 27)
        have hx11 := Bx.new (wr.alloc (.cells #[.int .i64 0, .string ⟨#[]⟩, .slice none 0 0, .bool false, .string ⟨#[]⟩, .int .i64 0] 36)) 27 #[.int .i64 0, .int .i64 0]
        rw [show (wr.alloc (.cells #[.int .i64 0, .string ⟨#[]⟩, .slice none 0 0, .bool false, .string ⟨#[]⟩, .int .i64 0] 36)).heap.size = wr.heap.size + 1 by simp] at hx11
        have hb2 : Below wr.heap.size wr ((wr.alloc (.cells #[.int .i64 0, .string ⟨#[]⟩, .slice none 0 0, .bool false, .string ⟨#[]⟩, .int .i64 0] 36)).alloc (.cells #[.int .i64 0, .int .i64 0] 27)) := ((Below.refl _ _).alloc (Nat.le_refl _) _).alloc (by simp) _
        generalize (wr.alloc (.cells #[.int .i64 0, .string ⟨#[]⟩, .slice none 0 0, .bool false, .string ⟨#[]⟩, .int .i64 0] 36)).alloc (.cells #[.int .i64 0, .int .i64 0] 27) = W4 at *
        have H10 := Lib.hid hx10
        have H11 := Lib.hid hx11
        have HB2 := Lib.hid hb2
        have HLE : Hid (wr.heap.size + 1 < W4.heap.size ∧ w.heap.size < wr.heap.size) := Lib.hid ⟨hx11.lt, HS.out.b3.lt⟩
        clear hx10 hx11 hb2
        go_cut [6] from 38 to 123 (fun v6 wc => CutR wr s i zz v6 wc)
        case first =>
          have ne01 : wr.heap.size ≠ wr.heap.size + 1 := by omega
          have ne10 : wr.heap.size + 1 ≠ wr.heap.size := by omega
          cases b1 with
          | true =>
            have h9 : i + 9 ≤ s.size := by have := prefix_len HQ1.out.symm; rw [tl_length] at this; simp only [List.length_cons, List.length_nil] at this; omega
            have hw9 : wrap64 ((i : Int) + 9) = (i : Int) + 9 := Go.IntWalk.wrap64_in _ (by omega)
            obtain ⟨z, hz⟩ : ∃ z, findV s ⟨#[93, 93, 62]⟩ (i + 9) = z := ⟨_, rfl⟩
            have HF := Lib.hid (dFind_any s ⟨#[93, 93, 62]⟩ (i + 9) z hz h9 hs (by show 3 ≤ 65536; omega) (by show 1 ≤ 3; omega))
            rw [show ((i + 9 : Nat) : Int) = (i : Int) + 9 by push_cast; rfl] at HF
            have hst : stepD i (tl s i) = (cdataO i (tl s (i + 9))).on 9 := by unfold stepD; rw [if_neg (by rw [HQ0.out]; decide), if_pos HQ1.out.symm, tl_drop]
            by_cases hzn : z < 0
            · have HX : Hid (resO s.data.toList = .inr (i, 84)) := Lib.hid (HBD2.out i 84 (by
                rw [hst]
                unfold cdataO
                rw [show upO [93, 93, 62] (tl s (i + 9)) = .un from up_none (p := ⟨#[93, 93, 62]⟩) (by rw [hz]; exact hzn)]; rfl))
              clear hz hst
              have hx3 := HS.out.b3.below HB2.out HLE.out.2
              have hbel := HS.out.bel.trans (HB2.out.mono (Nat.le_of_lt HLE.out.2))
              have k0 := hx3.c (j := 0) rfl
              have k1 := hx3.c (j := 1) rfl
              have z0 := hx3.fz 0
              have z1 := hx3.fz 1
              have H3 := Lib.hid hx3
              have HB3 := Lib.hid hbel
              clear hx3 hbel
              go_wp2_with (first
                | (go_at_call 25; ((with_reducible refine (HF.out _).mono ?_); rintro e w9 ⟨rfl, rfl⟩)))
              have f3 := (H3.out.set 0 (.int .i64 (i : Int))).set 1 (.int .i64 84)
              have fb := Below.setCell (Below.setCell HB3.out (p := ⟨w.heap.size, 0, none⟩) (Nat.le_refl _) (.int .i64 (i : Int))) (p := ⟨w.heap.size, 1, none⟩) (Nat.le_refl _) (.int .i64 84)
              have y0 := f3.c (j := 0) rfl
              have y1 := f3.c (j := 1) rfl
              clear f3
              refine bodyPost_ret (v := .tuple #[.slice none 0 0, .agg #[.int .i64 (i : Int), .int .i64 84]]) (by simp only [results, Tryz.results7]; simp [results, go_sem, y0, y1]) rfl ?_
              exact MxPost.bad HX.out fb
            · obtain ⟨e, he1, he2, he3, he4⟩ := up_some (p := ⟨#[93, 93, 62]⟩) h9 (by rw [hz]; exact hzn)
              obtain rfl : z = (e : Int) := by rw [← hz]; exact he1
              have he5 : e + 3 ≤ s.size := he3
              have hw3 : wrap64 ((e : Int) + 3) = (e : Int) + 3 := Go.IntWalk.wrap64_in _ (by omega)
              obtain ⟨T, hT⟩ : ∃ T, s.extract (i + 9) e = T := ⟨_, rfl⟩
              have hTd : T.data.toList = (tl s (i + 9)).take (e - (i + 9)) := by rw [← hT, ext_part]
              have hTs : T.size ≤ 65536 := by
                have := size_toList T
                rw [hTd, List.length_take, tl_length] at this
                omega
              have hst2 : stepD i (tl s i) = .ok (if T.data.toList = [] then none else some ⟨3, [], [], false, flat1 T.data.toList, i⟩) (e - (i + 9) + 3 + 9) := by
                rw [hst]
                unfold cdataO
                rw [show upO [93, 93, 62] (tl s (i + 9)) = _ from he4, hTd]; rfl
              have HST := Lib.hid hst2
              have HK : Hid (i + (e - (i + 9) + 3 + 9) = e + 3) := Lib.hid (by omega)
              have HFL := Lib.hid (dFlat_any T false hTs)
              have he0 : (0 : Int) ≤ (e : Int) := by omega
              have i90 : (0 : Int) ≤ (i : Int) + 9 := by omega
              have i91 : (i : Int) + 9 ≤ (e : Int) := by omega
              have i92 : (e : Int) ≤ (s.size : Int) := by omega
              have i93 : ((i : Int) + 9).toNat = i + 9 := by omega
              clear hz hst hst2 he1 he4 he3 hTd hTs HON HBD2 HQ0 HQ1
              go_wp2_with (go_at_call 25; ((with_reducible refine (HF.out _).mono ?_); rintro e w9 ⟨rfl, rfl⟩))
              refine (HFL.out _).mono ?_
              rintro e5 w5 ⟨A, l5, c5, rfl, hold, hb5⟩
              have hcv := conv_hold hold
              have gx10 := H10.out.below hb5 (Nat.lt_of_succ_lt HLE.out.1)
              have gx11 := H11.out.below hb5 HLE.out.1
              have gb := HB2.out.trans (hb5.mono (Nat.le_of_lt (Nat.lt_of_succ_lt HLE.out.1)))
              have y0 := gx10.c (j := 0) rfl
              have yz0 := gx10.fz 0
              have y1 := gx10.c (j := 1) rfl
              have yz1 := gx10.fz 1
              have y2 := gx10.c (j := 2) rfl
              have yz2 := gx10.fz 2
              have y3 := gx10.c (j := 3) rfl
              have yz3 := gx10.fz 3
              have y4 := gx10.c (j := 4) rfl
              have yz4 := gx10.fz 4
              have y5 := gx10.c (j := 5) rfl
              have yz5 := gx10.fz 5
              have G10 := Lib.hid gx10
              have G11 := Lib.hid gx11
              have GB := Lib.hid gb
              clear gx10 gx11 gb hb5 hold
              go_wp2_with fail
              have f11 := ((((((G11.out.other ne01 0 (.int .i64 3)).other ne01 1 (.string ⟨#[]⟩)).other ne01 2 (.slice none 0 0)).other ne01 3 (.bool false)).other ne01 4 (.string ⟨(flatV false T.data.toList).toArray⟩)).other ne01 5 (.int .i64 (i : Int)))
              have fb := (Below.setCell (Below.setCell (Below.setCell (Below.setCell (Below.setCell (Below.setCell GB.out (p := ⟨wr.heap.size, 0, none⟩) (Nat.le_refl _) (.int .i64 3)) (p := ⟨wr.heap.size, 1, none⟩) (Nat.le_refl _) (.string ⟨#[]⟩)) (p := ⟨wr.heap.size, 2, none⟩) (Nat.le_refl _) (.slice none 0 0)) (p := ⟨wr.heap.size, 3, none⟩) (Nat.le_refl _) (.bool false)) (p := ⟨wr.heap.size, 4, none⟩) (Nat.le_refl _) (.string ⟨(flatV false T.data.toList).toArray⟩)) (p := ⟨wr.heap.size, 5, none⟩) (Nat.le_refl _) (.int .i64 (i : Int)))
              have f10 := ((((((G10.out.set 0 (.int .i64 3)).set 1 (.string ⟨#[]⟩)).set 2 (.slice none 0 0)).set 3 (.bool false)).set 4 (.string ⟨(flatV false T.data.toList).toArray⟩)).set 5 (.int .i64 (i : Int)))
              clear y0 y1 y2 y3 y4 y5 yz0 yz1 yz2 yz3 yz4 yz5
              go_meet
              case rel =>
                refine ⟨fb, .inr ⟨⟨3, [], [], false, flat1 T.data.toList, i⟩, .slice none 0 0, _, _, e + 3, HST.out, HK.out, ?_, by push_cast; rfl, ?_, f11, AR.nil _ _, apart_nil zz⟩⟩
                · by_cases ht : T.data.toList = []
                  · right; rw [if_pos ht, ht]; exact ⟨rfl, rfl, rfl⟩
                  · left; rw [if_neg ht]; exact ⟨rfl, .inr (flat_some ht)⟩
                · rw [← flat_plain]; exact f10
          | false =>
            have HA6 := Lib.hid (fun (b : Bool) (hb : b = Lib.hasPrefix (tl s i) [60, 47]) (W : World) => dAt_is s ⟨#[60, 47]⟩ i b hb hj (by omega) (by show 2 ≤ 140737488355328; omega) W)
            have HA7 := Lib.hid (fun (b : Bool) (hb : b = Lib.hasPrefix (tl s i) [60]) (W : World) => dAt_is s ⟨#[60]⟩ i b hb hj (by omega) (by show 1 ≤ 140737488355328; omega) W)
            cases q2 : Lib.hasPrefix (tl s i) [60, 47] with
            | true =>
              have HA8 := Lib.hid (HA6.out true q2.symm)
              have h2 : i + 2 ≤ s.size := by have := prefix_len q2; rw [tl_length] at this; simp only [List.length_cons, List.length_nil] at this; omega
              have hst : stepD i (tl s i) = ((endO i (tl s (i + 2))).map some).on 2 := by unfold stepD; rw [if_neg (by rw [HQ0.out]; decide), if_neg (by rw [← HQ1.out]; decide), if_pos q2, tl_drop]
              have HCL := Lib.hid (dClosing_any s i h2 hs)
              have hfo : failO (i + 2) i (endO i (tl s (i + 2))) = failO i i (stepD i (tl s i)) := by rw [hst, failO_on, failO_map]
              cases hO : endO i (tl s (i + 2)) with
              | ok m N =>
                obtain ⟨hma, hmk⟩ := endO_ok hO
                have HST : Hid (stepD i (tl s i) = .ok (some m) (N + 2)) := Lib.hid (by rw [hst, hO]; rfl)
                obtain ⟨i2, hi2⟩ : ∃ i2, i + 2 + N = i2 := ⟨_, rfl⟩
                have HCL2 : Hid (∀ W : World, Calls Tryz.prog 27 #[.string s, .int .i64 (i : Int)] W fun e w' => Below W.heap.size W w' ∧ e = .returned (.tuple #[.agg #[.int .i64 (m.kind : Int), .string ⟨m.name.toArray⟩, .slice none 0 0, .bool m.empty, .string ⟨m.text.toArray⟩, .int .i64 (m.at_ : Int)], .int .i64 (i2 : Int), .agg #[.int .i64 0, .int .i64 0]])) := Lib.hid (fun W => (HCL.out W).mono (by
                  rintro e w' hAP
                  unfold CfPost at hAP
                  rw [hO] at hAP
                  obtain ⟨h1, h2⟩ := hAP
                  simp only [hi2] at h2
                  exact ⟨h1, h2⟩))
                have HMK : Hid (m.attrs = [] ∧ m.kind = 2 ∧ i + (N + 2) = i2) := Lib.hid ⟨hma, hmk, by omega⟩
                clear hst hfo hO hma hmk hi2 HCL q2 h2 HA6 HA7 HQ0 HQ1
                go_wp2_with (first
                  | (go_at_call 23; ((with_reducible refine (HA8.out _).mono ?_); rintro e w6 ⟨rfl, rfl⟩)))
                refine (HCL2.out _).mono ?_
                rintro e w5 ⟨hb5, rfl⟩
                have gx10 := H10.out.below hb5 (Nat.lt_of_succ_lt HLE.out.1)
                have gx11 := H11.out.below hb5 HLE.out.1
                have gb := HB2.out.trans (hb5.mono (Nat.le_of_lt (Nat.lt_of_succ_lt HLE.out.1)))
                have y0 := gx10.c (j := 0) rfl
                have yz0 := gx10.fz 0
                have y1 := gx10.c (j := 1) rfl
                have yz1 := gx10.fz 1
                have y2 := gx10.c (j := 2) rfl
                have yz2 := gx10.fz 2
                have y3 := gx10.c (j := 3) rfl
                have yz3 := gx10.fz 3
                have y4 := gx10.c (j := 4) rfl
                have yz4 := gx10.fz 4
                have y5 := gx10.c (j := 5) rfl
                have yz5 := gx10.fz 5
                have x0 := gx11.c (j := 0) rfl
                have xz0 := gx11.fz 0
                have x1 := gx11.c (j := 1) rfl
                have xz1 := gx11.fz 1
                have G10 := Lib.hid gx10
                have G11 := Lib.hid gx11
                have GB := Lib.hid gb
                clear gx10 gx11 gb hb5
                go_wp2_with fail
                have f11 := ((((((((G11.out.other ne01 0 (.int .i64 (m.kind : Int))).other ne01 1 (.string ⟨m.name.toArray⟩)).other ne01 2 (.slice none 0 0)).other ne01 3 (.bool m.empty)).other ne01 4 (.string ⟨m.text.toArray⟩)).other ne01 5 (.int .i64 (m.at_ : Int))).set 0 (.int .i64 0)).set 1 (.int .i64 0))
                have fb := (Below.setCell (Below.setCell (Below.setCell (Below.setCell (Below.setCell (Below.setCell (Below.setCell (Below.setCell GB.out (p := ⟨wr.heap.size, 0, none⟩) (Nat.le_refl _) (.int .i64 (m.kind : Int))) (p := ⟨wr.heap.size, 1, none⟩) (Nat.le_refl _) (.string ⟨m.name.toArray⟩)) (p := ⟨wr.heap.size, 2, none⟩) (Nat.le_refl _) (.slice none 0 0)) (p := ⟨wr.heap.size, 3, none⟩) (Nat.le_refl _) (.bool m.empty)) (p := ⟨wr.heap.size, 4, none⟩) (Nat.le_refl _) (.string ⟨m.text.toArray⟩)) (p := ⟨wr.heap.size, 5, none⟩) (Nat.le_refl _) (.int .i64 (m.at_ : Int))) (p := ⟨wr.heap.size + 1, 0, none⟩) (Nat.le_succ _) (.int .i64 0)) (p := ⟨wr.heap.size + 1, 1, none⟩) (Nat.le_succ _) (.int .i64 0))
                have f10 := ((((((((G10.out.set 0 (.int .i64 (m.kind : Int))).set 1 (.string ⟨m.name.toArray⟩)).set 2 (.slice none 0 0)).set 3 (.bool m.empty)).set 4 (.string ⟨m.text.toArray⟩)).set 5 (.int .i64 (m.at_ : Int))).other ne10 0 (.int .i64 0)).other ne10 1 (.int .i64 0))
                clear y0 yz0 y1 yz1 y2 yz2 y3 yz3 y4 yz4 y5 yz5 x0 x1 xz0 xz1
                go_meet
                case rel => exact ⟨fb, .inr ⟨m, .slice none 0 0, _, _, i2, HST.out, HMK.out.2.2, .inl ⟨rfl, .inl (by rw [HMK.out.2.1]; decide)⟩, rfl, f10, f11, by rw [HMK.out.1]; exact AR.nil _ _, apart_nil zz⟩⟩
              | _ =>
                have hno : ∀ a n, endO i (tl s (i + 2)) ≠ .ok a n := fun a n e => by rw [hO] at e; cases e
                have HCL2 : Hid (∀ W : World, Calls Tryz.prog 27 #[.string s, .int .i64 (i : Int)] W fun e w' => Below W.heap.size W w' ∧ ∃ x c, failO i i (stepD i (tl s i)) = some (x, c) ∧ c ≠ 0 ∧ ∃ (kd : Int) (nme : ByteArray) (A : Option Addr) (ln cp : Nat) (bb : Bool) (tx : ByteArray) (zt iz : Int), e = .returned (.tuple #[.agg #[.int .i64 kd, .string nme, .slice A ln cp, .bool bb, .string tx, .int .i64 zt], .int .i64 iz, fltV x c])) := Lib.hid (fun W => (HCL.out W).mono (by
                  rintro e w' hAP
                  unfold CfPost at hAP
                  rw [hO] at hAP
                  rw [← hfo, hO]
                  exact hAP))
                clear hst hfo hO hno HCL q2 h2 HA6 HA7 HQ0 HQ1
                go_wp2_with (first
                  | (go_at_call 23; ((with_reducible refine (HA8.out _).mono ?_); rintro e w6 ⟨rfl, rfl⟩)))
                refine (HCL2.out _).mono ?_
                rintro e w5 ⟨hb5, a, c, hxx, hcn, kd, nme, A, ln, cp, bb, tx, zt, iz, rfl⟩
                have HXX := Lib.hid (And.intro hxx hcn)
                clear hxx hcn
                have gx10 := H10.out.below hb5 (Nat.lt_of_succ_lt HLE.out.1)
                have gx11 := H11.out.below hb5 HLE.out.1
                have gb := HB2.out.trans (hb5.mono (Nat.le_of_lt (Nat.lt_of_succ_lt HLE.out.1)))
                have y0 := gx10.c (j := 0) rfl
                have yz0 := gx10.fz 0
                have y1 := gx10.c (j := 1) rfl
                have yz1 := gx10.fz 1
                have y2 := gx10.c (j := 2) rfl
                have yz2 := gx10.fz 2
                have y3 := gx10.c (j := 3) rfl
                have yz3 := gx10.fz 3
                have y4 := gx10.c (j := 4) rfl
                have yz4 := gx10.fz 4
                have y5 := gx10.c (j := 5) rfl
                have yz5 := gx10.fz 5
                have x0 := gx11.c (j := 0) rfl
                have xz0 := gx11.fz 0
                have x1 := gx11.c (j := 1) rfl
                have xz1 := gx11.fz 1
                have G10 := Lib.hid gx10
                have G11 := Lib.hid gx11
                have GB := Lib.hid gb
                clear gx10 gx11 gb hb5
                go_wp2_with fail
                have f11 := ((((((((G11.out.other ne01 0 (.int .i64 kd)).other ne01 1 (.string nme)).other ne01 2 (.slice A ln cp)).other ne01 3 (.bool bb)).other ne01 4 (.string tx)).other ne01 5 (.int .i64 zt)).set 0 (.int .i64 (a : Int))).set 1 (.int .i64 c))
                have fb := (Below.setCell (Below.setCell (Below.setCell (Below.setCell (Below.setCell (Below.setCell (Below.setCell (Below.setCell GB.out (p := ⟨wr.heap.size, 0, none⟩) (Nat.le_refl _) (.int .i64 kd)) (p := ⟨wr.heap.size, 1, none⟩) (Nat.le_refl _) (.string nme)) (p := ⟨wr.heap.size, 2, none⟩) (Nat.le_refl _) (.slice A ln cp)) (p := ⟨wr.heap.size, 3, none⟩) (Nat.le_refl _) (.bool bb)) (p := ⟨wr.heap.size, 4, none⟩) (Nat.le_refl _) (.string tx)) (p := ⟨wr.heap.size, 5, none⟩) (Nat.le_refl _) (.int .i64 zt)) (p := ⟨wr.heap.size + 1, 0, none⟩) (Nat.le_succ _) (.int .i64 (a : Int))) (p := ⟨wr.heap.size + 1, 1, none⟩) (Nat.le_succ _) (.int .i64 c))
                have f10 := ((((((((G10.out.set 0 (.int .i64 kd)).set 1 (.string nme)).set 2 (.slice A ln cp)).set 3 (.bool bb)).set 4 (.string tx)).set 5 (.int .i64 zt)).other ne10 0 (.int .i64 (a : Int))).other ne10 1 (.int .i64 c))
                clear y0 yz0 y1 yz1 y2 yz2 y3 yz3 y4 yz4 y5 yz5 x0 x1 xz0 xz1
                go_meet
                case rel => exact ⟨fb, .inl ⟨a, c, _, HXX.out.1, HXX.out.2, f11, rfl⟩⟩
            | false =>
              have HA8 := Lib.hid (HA6.out false q2.symm)
              cases q3 : Lib.hasPrefix (tl s i) [60] with
              | true =>
                have HA9 := Lib.hid (HA7.out true q3.symm)
                have h1 : i + 1 ≤ s.size := hltn
                have hst : stepD i (tl s i) = ((startO i (i + 1) (tl s (i + 1))).map some).on 1 := by unfold stepD; rw [if_neg (by rw [HQ0.out]; decide), if_neg (by rw [← HQ1.out]; decide), if_neg (by rw [q2]; decide), if_pos q3, tl_drop]
                have HCL := Lib.hid (dOpening_any s i h1 hs h0.out)
                have hfo : failO (i + 1) i (startO i (i + 1) (tl s (i + 1))) = failO i i (stepD i (tl s i)) := by rw [hst, failO_on, failO_map]
                cases hO : startO i (i + 1) (tl s (i + 1)) with
                | ok m N =>
                  have hmk := startO_ok hO
                  have HST : Hid (stepD i (tl s i) = .ok (some m) (N + 1)) := Lib.hid (by rw [hst, hO]; rfl)
                  obtain ⟨i2, hi2⟩ : ∃ i2, i + 1 + N = i2 := ⟨_, rfl⟩
                  have HCL2 : Hid (∀ W : World, Calls Tryz.prog 28 #[.string s, .int .i64 (i : Int)] W fun e w' => Below W.heap.size W w' ∧ ∃ (A : Option Addr) (cp : Nat), AR w' W.heap.size (.slice A m.attrs.length cp) m.attrs ∧ e = .returned (.tuple #[.agg #[.int .i64 (m.kind : Int), .string ⟨m.name.toArray⟩, .slice A m.attrs.length cp, .bool m.empty, .string ⟨m.text.toArray⟩, .int .i64 (m.at_ : Int)], .int .i64 (i2 : Int), .agg #[.int .i64 0, .int .i64 0]])) := Lib.hid (fun W => (HCL.out W).mono (by
                    rintro e w' hAP
                    unfold OpPost at hAP
                    rw [hO] at hAP
                    obtain ⟨h1, av, h2, h3⟩ := hAP
                    obtain ⟨A, cp, rfl⟩ := own_slice h2
                    simp only [hi2] at h3
                    exact ⟨h1, A, cp, h2, h3⟩))
                  have HMK : Hid (m.kind = 1 ∧ i + (N + 1) = i2) := Lib.hid ⟨hmk, by omega⟩
                  clear hst hfo hO hmk hi2 HCL q2 q3 h1 HA6 HA7 HQ0 HQ1
                  go_wp2_with (first
                    | (go_at_call 23; ((with_reducible refine (HA8.out _).mono ?_); rintro e w6 ⟨rfl, rfl⟩))
                    | (go_at_call 23; ((with_reducible refine (HA9.out _).mono ?_); rintro e w7 ⟨rfl, rfl⟩)))
                  refine (HCL2.out _).mono ?_
                  rintro e w5 ⟨hb5, A, cp, hAR, rfl⟩
                  have HAR : Hid (AR w5 wr.heap.size (.slice A m.attrs.length cp) m.attrs) := Lib.hid (own_mono hAR (by have := HLE.out.1; omega))
                  clear hAR
                  have gx10 := H10.out.below hb5 (Nat.lt_of_succ_lt HLE.out.1)
                  have gx11 := H11.out.below hb5 HLE.out.1
                  have gb := HB2.out.trans (hb5.mono (Nat.le_of_lt (Nat.lt_of_succ_lt HLE.out.1)))
                  have y0 := gx10.c (j := 0) rfl
                  have yz0 := gx10.fz 0
                  have y1 := gx10.c (j := 1) rfl
                  have yz1 := gx10.fz 1
                  have y2 := gx10.c (j := 2) rfl
                  have yz2 := gx10.fz 2
                  have y3 := gx10.c (j := 3) rfl
                  have yz3 := gx10.fz 3
                  have y4 := gx10.c (j := 4) rfl
                  have yz4 := gx10.fz 4
                  have y5 := gx10.c (j := 5) rfl
                  have yz5 := gx10.fz 5
                  have x0 := gx11.c (j := 0) rfl
                  have xz0 := gx11.fz 0
                  have x1 := gx11.c (j := 1) rfl
                  have xz1 := gx11.fz 1
                  have G10 := Lib.hid gx10
                  have G11 := Lib.hid gx11
                  have GB := Lib.hid gb
                  clear gx10 gx11 gb hb5
                  go_wp2_with fail
                  have f11 := ((((((((G11.out.other ne01 0 (.int .i64 (m.kind : Int))).other ne01 1 (.string ⟨m.name.toArray⟩)).other ne01 2 (.slice A m.attrs.length cp)).other ne01 3 (.bool m.empty)).other ne01 4 (.string ⟨m.text.toArray⟩)).other ne01 5 (.int .i64 (m.at_ : Int))).set 0 (.int .i64 0)).set 1 (.int .i64 0))
                  have fb := (Below.setCell (Below.setCell (Below.setCell (Below.setCell (Below.setCell (Below.setCell (Below.setCell (Below.setCell GB.out (p := ⟨wr.heap.size, 0, none⟩) (Nat.le_refl _) (.int .i64 (m.kind : Int))) (p := ⟨wr.heap.size, 1, none⟩) (Nat.le_refl _) (.string ⟨m.name.toArray⟩)) (p := ⟨wr.heap.size, 2, none⟩) (Nat.le_refl _) (.slice A m.attrs.length cp)) (p := ⟨wr.heap.size, 3, none⟩) (Nat.le_refl _) (.bool m.empty)) (p := ⟨wr.heap.size, 4, none⟩) (Nat.le_refl _) (.string ⟨m.text.toArray⟩)) (p := ⟨wr.heap.size, 5, none⟩) (Nat.le_refl _) (.int .i64 (m.at_ : Int))) (p := ⟨wr.heap.size + 1, 0, none⟩) (Nat.le_succ _) (.int .i64 0)) (p := ⟨wr.heap.size + 1, 1, none⟩) (Nat.le_succ _) (.int .i64 0))
                  have f10 := ((((((((G10.out.set 0 (.int .i64 (m.kind : Int))).set 1 (.string ⟨m.name.toArray⟩)).set 2 (.slice A m.attrs.length cp)).set 3 (.bool m.empty)).set 4 (.string ⟨m.text.toArray⟩)).set 5 (.int .i64 (m.at_ : Int))).other ne10 0 (.int .i64 0)).other ne10 1 (.int .i64 0))
                  have fr := ((((((((HAR.out.setAt G10.out (by decide) 0 (.int .i64 (m.kind : Int))).setAt (G10.out.set 0 (.int .i64 (m.kind : Int))) (by decide) 1 (.string ⟨m.name.toArray⟩)).setAt ((G10.out.set 0 (.int .i64 (m.kind : Int))).set 1 (.string ⟨m.name.toArray⟩)) (by decide) 2 (.slice A m.attrs.length cp)).setAt (((G10.out.set 0 (.int .i64 (m.kind : Int))).set 1 (.string ⟨m.name.toArray⟩)).set 2 (.slice A m.attrs.length cp)) (by decide) 3 (.bool m.empty)).setAt ((((G10.out.set 0 (.int .i64 (m.kind : Int))).set 1 (.string ⟨m.name.toArray⟩)).set 2 (.slice A m.attrs.length cp)).set 3 (.bool m.empty)) (by decide) 4 (.string ⟨m.text.toArray⟩)).setAt (((((G10.out.set 0 (.int .i64 (m.kind : Int))).set 1 (.string ⟨m.name.toArray⟩)).set 2 (.slice A m.attrs.length cp)).set 3 (.bool m.empty)).set 4 (.string ⟨m.text.toArray⟩)) (by decide) 5 (.int .i64 (m.at_ : Int))).setAt ((((((G11.out.other ne01 0 (.int .i64 (m.kind : Int))).other ne01 1 (.string ⟨m.name.toArray⟩)).other ne01 2 (.slice A m.attrs.length cp)).other ne01 3 (.bool m.empty)).other ne01 4 (.string ⟨m.text.toArray⟩)).other ne01 5 (.int .i64 (m.at_ : Int))) (by decide) 0 (.int .i64 0)).setAt (((((((G11.out.other ne01 0 (.int .i64 (m.kind : Int))).other ne01 1 (.string ⟨m.name.toArray⟩)).other ne01 2 (.slice A m.attrs.length cp)).other ne01 3 (.bool m.empty)).other ne01 4 (.string ⟨m.text.toArray⟩)).other ne01 5 (.int .i64 (m.at_ : Int))).set 0 (.int .i64 0)) (by decide) 1 (.int .i64 0))
                  clear y0 yz0 y1 yz1 y2 yz2 y3 yz3 y4 yz4 y5 yz5 x0 x1 xz0 xz1
                  go_meet
                  case rel => exact ⟨fb, .inr ⟨m, .slice A m.attrs.length cp, _, _, i2, HST.out, HMK.out.2, .inl ⟨rfl, .inl (by rw [HMK.out.1]; decide)⟩, rfl, f10, f11, fr, HS.out.row.new_apart HAR.out (Nat.le_refl _)⟩⟩
                | _ =>
                  have HCL2 : Hid (∀ W : World, Calls Tryz.prog 28 #[.string s, .int .i64 (i : Int)] W fun e w' => Below W.heap.size W w' ∧ ∃ x c, failO i i (stepD i (tl s i)) = some (x, c) ∧ c ≠ 0 ∧ ∃ (kd : Int) (nme : ByteArray) (A : Option Addr) (ln cp : Nat) (bb : Bool) (tx : ByteArray) (zt iz : Int), e = .returned (.tuple #[.agg #[.int .i64 kd, .string nme, .slice A ln cp, .bool bb, .string tx, .int .i64 zt], .int .i64 iz, fltV x c])) := Lib.hid (fun W => (HCL.out W).mono (by
                    rintro e w' hAP
                    unfold OpPost at hAP
                    rw [hO] at hAP
                    rw [← hfo, hO]
                    exact hAP))
                  clear hst hfo hO HCL q2 q3 h1 HA6 HA7 HQ0 HQ1
                  go_wp2_with (first
                    | (go_at_call 23; ((with_reducible refine (HA8.out _).mono ?_); rintro e w6 ⟨rfl, rfl⟩))
                    | (go_at_call 23; ((with_reducible refine (HA9.out _).mono ?_); rintro e w7 ⟨rfl, rfl⟩)))
                  refine (HCL2.out _).mono ?_
                  rintro e w5 ⟨hb5, a, c, hxx, hcn, kd, nme, A, ln, cp, bb, tx, zt, iz, rfl⟩
                  have HXX := Lib.hid (And.intro hxx hcn)
                  clear hxx hcn
                  have gx10 := H10.out.below hb5 (Nat.lt_of_succ_lt HLE.out.1)
                  have gx11 := H11.out.below hb5 HLE.out.1
                  have gb := HB2.out.trans (hb5.mono (Nat.le_of_lt (Nat.lt_of_succ_lt HLE.out.1)))
                  have y0 := gx10.c (j := 0) rfl
                  have yz0 := gx10.fz 0
                  have y1 := gx10.c (j := 1) rfl
                  have yz1 := gx10.fz 1
                  have y2 := gx10.c (j := 2) rfl
                  have yz2 := gx10.fz 2
                  have y3 := gx10.c (j := 3) rfl
                  have yz3 := gx10.fz 3
                  have y4 := gx10.c (j := 4) rfl
                  have yz4 := gx10.fz 4
                  have y5 := gx10.c (j := 5) rfl
                  have yz5 := gx10.fz 5
                  have x0 := gx11.c (j := 0) rfl
                  have xz0 := gx11.fz 0
                  have x1 := gx11.c (j := 1) rfl
                  have xz1 := gx11.fz 1
                  have G10 := Lib.hid gx10
                  have G11 := Lib.hid gx11
                  have GB := Lib.hid gb
                  clear gx10 gx11 gb hb5
                  go_wp2_with fail
                  have f11 := ((((((((G11.out.other ne01 0 (.int .i64 kd)).other ne01 1 (.string nme)).other ne01 2 (.slice A ln cp)).other ne01 3 (.bool bb)).other ne01 4 (.string tx)).other ne01 5 (.int .i64 zt)).set 0 (.int .i64 (a : Int))).set 1 (.int .i64 c))
                  have fb := (Below.setCell (Below.setCell (Below.setCell (Below.setCell (Below.setCell (Below.setCell (Below.setCell (Below.setCell GB.out (p := ⟨wr.heap.size, 0, none⟩) (Nat.le_refl _) (.int .i64 kd)) (p := ⟨wr.heap.size, 1, none⟩) (Nat.le_refl _) (.string nme)) (p := ⟨wr.heap.size, 2, none⟩) (Nat.le_refl _) (.slice A ln cp)) (p := ⟨wr.heap.size, 3, none⟩) (Nat.le_refl _) (.bool bb)) (p := ⟨wr.heap.size, 4, none⟩) (Nat.le_refl _) (.string tx)) (p := ⟨wr.heap.size, 5, none⟩) (Nat.le_refl _) (.int .i64 zt)) (p := ⟨wr.heap.size + 1, 0, none⟩) (Nat.le_succ _) (.int .i64 (a : Int))) (p := ⟨wr.heap.size + 1, 1, none⟩) (Nat.le_succ _) (.int .i64 c))
                  have f10 := ((((((((G10.out.set 0 (.int .i64 kd)).set 1 (.string nme)).set 2 (.slice A ln cp)).set 3 (.bool bb)).set 4 (.string tx)).set 5 (.int .i64 zt)).other ne10 0 (.int .i64 (a : Int))).other ne10 1 (.int .i64 c))
                  clear y0 yz0 y1 yz1 y2 yz2 y3 yz3 y4 yz4 y5 yz5 x0 x1 xz0 xz1
                  go_meet
                  case rel => exact ⟨fb, .inl ⟨a, c, _, HXX.out.1, HXX.out.2, f11, rfl⟩⟩
              | false =>
                have HA9 := Lib.hid (HA7.out false q3.symm)
                have hst : stepD i (tl s i) = (textO (tl s i)).map fun t => some ⟨3, [], [], false, t, i⟩ := by unfold stepD; rw [if_neg (by rw [HQ0.out]; decide), if_neg (by rw [← HQ1.out]; decide), if_neg (by rw [q2]; decide), if_neg (by rw [q3]; decide)]
                have hstop : stopT (tl s i) = false := by
                  have h60 : hd (tl s i) ≠ 60 := fun e => by rw [hasP_one.2 e] at q3; cases q3
                  have hne : tl s i ≠ [] := fun e => by have := (tl_nil (s := s) (k := i) hj).1 e; omega
                  unfold stopT
                  rw [beq_eq_false_iff_ne.2 h60]
                  cases h : tl s i with
                  | nil => exact absurd h hne
                  | cons x y => rfl
                have HTX := Lib.hid (fun W => dText_any s i 60 false rfl hj hs h0.out W)
                rw [← textO_whole] at HTX
                cases hO : textO (tl s i) with
                | ok t N =>
                  have htn := textO_some hstop hO
                  have HST : Hid (stepD i (tl s i) = .ok (some ⟨3, [], [], false, t, i⟩) N) := Lib.hid (by rw [hst, hO]; rfl)
                  obtain ⟨i2, hi2⟩ : ∃ i2, i + N = i2 := ⟨_, rfl⟩
                  have HTX2 : Hid (∀ W : World, Calls Tryz.prog 29 #[.string s, .int .i64 (i : Int), .int .u8 60, .bool false] W fun e w' => Below W.heap.size W w' ∧ e = .returned (.tuple #[.string ⟨t.toArray⟩, .int .i64 (i2 : Int), .agg #[.int .i64 0, .int .i64 0]])) := Lib.hid (fun W => (HTX.out W).mono (by
                    rintro e w' hAP
                    unfold TextPost at hAP
                    rw [hO] at hAP
                    obtain ⟨h1, h2⟩ := hAP
                    simp only [hi2] at h2
                    exact ⟨h1, h2⟩))
                  have HMK : Hid (t ≠ [] ∧ i + N = i2) := Lib.hid ⟨htn, hi2⟩
                  clear hst hO htn hi2 HTX q2 q3 hstop HA6 HA7 HQ0 HQ1
                  have y0 := H10.out.c (j := 0) rfl
                  have yz0 := H10.out.fz 0
                  have y1 := H10.out.c (j := 1) rfl
                  have yz1 := H10.out.fz 1
                  have y2 := H10.out.c (j := 2) rfl
                  have yz2 := H10.out.fz 2
                  have y3 := H10.out.c (j := 3) rfl
                  have yz3 := H10.out.fz 3
                  have y4 := H10.out.c (j := 4) rfl
                  have yz4 := H10.out.fz 4
                  have y5 := H10.out.c (j := 5) rfl
                  have yz5 := H10.out.fz 5
                  go_upto_region 31 with (first
                    | (go_at_call 23; ((with_reducible refine (HA8.out _).mono ?_); rintro e w6 ⟨rfl, rfl⟩))
                    | (go_at_call 23; ((with_reducible refine (HA9.out _).mono ?_); rintro e w7 ⟨rfl, rfl⟩)))
                  have f11 := ((((((H11.out.other ne01 0 (.int .i64 3)).other ne01 1 (.string ⟨#[]⟩)).other ne01 2 (.slice none 0 0)).other ne01 3 (.bool false)).other ne01 4 (.string ⟨#[]⟩)).other ne01 5 (.int .i64 (i : Int)))
                  have fb := (Below.setCell (Below.setCell (Below.setCell (Below.setCell (Below.setCell (Below.setCell HB2.out (p := ⟨wr.heap.size, 0, none⟩) (Nat.le_refl _) (.int .i64 3)) (p := ⟨wr.heap.size, 1, none⟩) (Nat.le_refl _) (.string ⟨#[]⟩)) (p := ⟨wr.heap.size, 2, none⟩) (Nat.le_refl _) (.slice none 0 0)) (p := ⟨wr.heap.size, 3, none⟩) (Nat.le_refl _) (.bool false)) (p := ⟨wr.heap.size, 4, none⟩) (Nat.le_refl _) (.string ⟨#[]⟩)) (p := ⟨wr.heap.size, 5, none⟩) (Nat.le_refl _) (.int .i64 (i : Int)))
                  have f10 := ((((((H10.out.set 0 (.int .i64 3)).set 1 (.string ⟨#[]⟩)).set 2 (.slice none 0 0)).set 3 (.bool false)).set 4 (.string ⟨#[]⟩)).set 5 (.int .i64 (i : Int)))
                  clear y0 y1 y2 y3 y4 y5 yz0 yz1 yz2 yz3 yz4 yz5
                  have hle := f11.lt
                  generalize ((((((W4.setCell ⟨wr.heap.size, 0, none⟩ (.int .i64 3)).setCell ⟨wr.heap.size, 1, none⟩ (.string ⟨#[]⟩)).setCell ⟨wr.heap.size, 2, none⟩ (.slice none 0 0)).setCell ⟨wr.heap.size, 3, none⟩ (.bool false)).setCell ⟨wr.heap.size, 4, none⟩ (.string ⟨#[]⟩)).setCell ⟨wr.heap.size, 5, none⟩ (.int .i64 (i : Int))) = W6 at *
                  have H10 := Lib.hid f10
                  have H11 := Lib.hid f11
                  have HB2 := Lib.hid fb
                  have HLE : Hid (wr.heap.size + 1 < W6.heap.size ∧ w.heap.size < wr.heap.size) := Lib.hid ⟨hle, HLE.out.2⟩
                  clear f10 f11 fb hle
                  go_wp2_with fail
                  refine (HTX2.out _).mono ?_
                  rintro e w5 ⟨hb5, rfl⟩
                  have gx10 := H10.out.below hb5 (Nat.lt_of_succ_lt HLE.out.1)
                  have gx11 := H11.out.below hb5 HLE.out.1
                  have gb := HB2.out.trans (hb5.mono (Nat.le_of_lt (Nat.lt_of_succ_lt HLE.out.1)))
                  have y0 := gx10.c (j := 0) rfl
                  have yz0 := gx10.fz 0
                  have y1 := gx10.c (j := 1) rfl
                  have yz1 := gx10.fz 1
                  have y2 := gx10.c (j := 2) rfl
                  have yz2 := gx10.fz 2
                  have y3 := gx10.c (j := 3) rfl
                  have yz3 := gx10.fz 3
                  have y4 := gx10.c (j := 4) rfl
                  have yz4 := gx10.fz 4
                  have y5 := gx10.c (j := 5) rfl
                  have yz5 := gx10.fz 5
                  have x0 := gx11.c (j := 0) rfl
                  have xz0 := gx11.fz 0
                  have x1 := gx11.c (j := 1) rfl
                  have xz1 := gx11.fz 1
                  have G10 := Lib.hid gx10
                  have G11 := Lib.hid gx11
                  have GB := Lib.hid gb
                  clear gx10 gx11 gb hb5
                  go_wp2_with fail
                  have f11 := (((G11.out.other ne01 4 (.string ⟨t.toArray⟩)).set 0 (.int .i64 0)).set 1 (.int .i64 0))
                  have fb := (Below.setCell (Below.setCell (Below.setCell GB.out (p := ⟨wr.heap.size, 4, none⟩) (Nat.le_refl _) (.string ⟨t.toArray⟩)) (p := ⟨wr.heap.size + 1, 0, none⟩) (Nat.le_succ _) (.int .i64 0)) (p := ⟨wr.heap.size + 1, 1, none⟩) (Nat.le_succ _) (.int .i64 0))
                  have f10 := (((G10.out.set 4 (.string ⟨t.toArray⟩)).other ne10 0 (.int .i64 0)).other ne10 1 (.int .i64 0))
                  clear y0 yz0 y1 yz1 y2 yz2 y3 yz3 y4 yz4 y5 yz5 x0 x1 xz0 xz1
                  go_meet
                  case rel => exact ⟨fb, .inr ⟨⟨3, [], [], false, t, i⟩, .slice none 0 0, _, _, i2, HST.out, HMK.out.2, .inl ⟨rfl, .inr HMK.out.1⟩, rfl, f10, f11, AR.nil _ _, apart_nil zz⟩⟩
                | bad d c =>
                  have hcn := textO_code hO
                  obtain ⟨a, ha⟩ : ∃ a, i + d = a := ⟨_, rfl⟩
                  have HXX : Hid (failO i i (stepD i (tl s i)) = some (a, c) ∧ c ≠ 0) := Lib.hid ⟨by rw [hst, hO, failO_map, ← ha]; rfl, hcn⟩
                  have HTX2 : Hid (∀ W : World, Calls Tryz.prog 29 #[.string s, .int .i64 (i : Int), .int .u8 60, .bool false] W fun e w' => Below W.heap.size W w' ∧ e = .returned (.tuple #[.string ⟨#[]⟩, .int .i64 (a : Int), .agg #[.int .i64 (a : Int), .int .i64 c]])) := Lib.hid (fun W => (HTX.out W).mono (by
                    rintro e w' hAP
                    unfold TextPost at hAP
                    rw [hO] at hAP
                    obtain ⟨h1, h2⟩ := hAP
                    simp only [ha] at h2
                    exact ⟨h1, h2⟩))
                  clear hst hO hcn ha HTX q2 q3 hstop HA6 HA7 HQ0 HQ1
                  have y0 := H10.out.c (j := 0) rfl
                  have yz0 := H10.out.fz 0
                  have y1 := H10.out.c (j := 1) rfl
                  have yz1 := H10.out.fz 1
                  have y2 := H10.out.c (j := 2) rfl
                  have yz2 := H10.out.fz 2
                  have y3 := H10.out.c (j := 3) rfl
                  have yz3 := H10.out.fz 3
                  have y4 := H10.out.c (j := 4) rfl
                  have yz4 := H10.out.fz 4
                  have y5 := H10.out.c (j := 5) rfl
                  have yz5 := H10.out.fz 5
                  go_upto_region 31 with (first
                    | (go_at_call 23; ((with_reducible refine (HA8.out _).mono ?_); rintro e w6 ⟨rfl, rfl⟩))
                    | (go_at_call 23; ((with_reducible refine (HA9.out _).mono ?_); rintro e w7 ⟨rfl, rfl⟩)))
                  have f11 := ((((((H11.out.other ne01 0 (.int .i64 3)).other ne01 1 (.string ⟨#[]⟩)).other ne01 2 (.slice none 0 0)).other ne01 3 (.bool false)).other ne01 4 (.string ⟨#[]⟩)).other ne01 5 (.int .i64 (i : Int)))
                  have fb := (Below.setCell (Below.setCell (Below.setCell (Below.setCell (Below.setCell (Below.setCell HB2.out (p := ⟨wr.heap.size, 0, none⟩) (Nat.le_refl _) (.int .i64 3)) (p := ⟨wr.heap.size, 1, none⟩) (Nat.le_refl _) (.string ⟨#[]⟩)) (p := ⟨wr.heap.size, 2, none⟩) (Nat.le_refl _) (.slice none 0 0)) (p := ⟨wr.heap.size, 3, none⟩) (Nat.le_refl _) (.bool false)) (p := ⟨wr.heap.size, 4, none⟩) (Nat.le_refl _) (.string ⟨#[]⟩)) (p := ⟨wr.heap.size, 5, none⟩) (Nat.le_refl _) (.int .i64 (i : Int)))
                  have f10 := ((((((H10.out.set 0 (.int .i64 3)).set 1 (.string ⟨#[]⟩)).set 2 (.slice none 0 0)).set 3 (.bool false)).set 4 (.string ⟨#[]⟩)).set 5 (.int .i64 (i : Int)))
                  clear y0 y1 y2 y3 y4 y5 yz0 yz1 yz2 yz3 yz4 yz5
                  have hle := f11.lt
                  generalize ((((((W4.setCell ⟨wr.heap.size, 0, none⟩ (.int .i64 3)).setCell ⟨wr.heap.size, 1, none⟩ (.string ⟨#[]⟩)).setCell ⟨wr.heap.size, 2, none⟩ (.slice none 0 0)).setCell ⟨wr.heap.size, 3, none⟩ (.bool false)).setCell ⟨wr.heap.size, 4, none⟩ (.string ⟨#[]⟩)).setCell ⟨wr.heap.size, 5, none⟩ (.int .i64 (i : Int))) = W6 at *
                  have H10 := Lib.hid f10
                  have H11 := Lib.hid f11
                  have HB2 := Lib.hid fb
                  have HLE : Hid (wr.heap.size + 1 < W6.heap.size ∧ w.heap.size < wr.heap.size) := Lib.hid ⟨hle, HLE.out.2⟩
                  clear f10 f11 fb hle
                  go_wp2_with fail
                  refine (HTX2.out _).mono ?_
                  rintro e w5 ⟨hb5, rfl⟩
                  have gx10 := H10.out.below hb5 (Nat.lt_of_succ_lt HLE.out.1)
                  have gx11 := H11.out.below hb5 HLE.out.1
                  have gb := HB2.out.trans (hb5.mono (Nat.le_of_lt (Nat.lt_of_succ_lt HLE.out.1)))
                  have y0 := gx10.c (j := 0) rfl
                  have yz0 := gx10.fz 0
                  have y1 := gx10.c (j := 1) rfl
                  have yz1 := gx10.fz 1
                  have y2 := gx10.c (j := 2) rfl
                  have yz2 := gx10.fz 2
                  have y3 := gx10.c (j := 3) rfl
                  have yz3 := gx10.fz 3
                  have y4 := gx10.c (j := 4) rfl
                  have yz4 := gx10.fz 4
                  have y5 := gx10.c (j := 5) rfl
                  have yz5 := gx10.fz 5
                  have x0 := gx11.c (j := 0) rfl
                  have xz0 := gx11.fz 0
                  have x1 := gx11.c (j := 1) rfl
                  have xz1 := gx11.fz 1
                  have G10 := Lib.hid gx10
                  have G11 := Lib.hid gx11
                  have GB := Lib.hid gb
                  clear gx10 gx11 gb hb5
                  go_wp2_with fail
                  have f11 := (((G11.out.other ne01 4 (.string ⟨#[]⟩)).set 0 (.int .i64 (a : Int))).set 1 (.int .i64 c))
                  have fb := (Below.setCell (Below.setCell (Below.setCell GB.out (p := ⟨wr.heap.size, 4, none⟩) (Nat.le_refl _) (.string ⟨#[]⟩)) (p := ⟨wr.heap.size + 1, 0, none⟩) (Nat.le_succ _) (.int .i64 (a : Int))) (p := ⟨wr.heap.size + 1, 1, none⟩) (Nat.le_succ _) (.int .i64 c))
                  have f10 := (((G10.out.set 4 (.string ⟨#[]⟩)).other ne10 0 (.int .i64 (a : Int))).other ne10 1 (.int .i64 c))
                  clear y0 yz0 y1 yz1 y2 yz2 y3 yz3 y4 yz4 y5 yz5 x0 x1 xz0 xz1
                  go_meet
                  case rel => exact ⟨fb, .inl ⟨a, c, _, HXX.out.1, HXX.out.2, f11, rfl⟩⟩
                | un => exact absurd hO (textO_not _)
        case rest =>
        have hb := hcut.1
        rcases hcut.2 with ⟨a, c, z, hx, hcn, h11, rfl⟩ | ⟨m, av, o, N, i2, hst, hi2, ho, rfl, h10, h11, hA, hap⟩
        · have HX := Lib.hid (HBD2.out a c hx)
          have hcz : (c == 0) = false := beq_eq_false_iff_ne.2 hcn
          have hcz2 : (c != 0) = true := bne_iff_ne.2 hcn
          have k1 := h11.c (j := 1) rfl
          have hx3 := HS.out.b3.below hb HLE.out.2
          have hx4 := h11
          have hbel := HS.out.bel.trans (hb.mono (Nat.le_of_lt HLE.out.2))
          have ne43 : wr.heap.size + 1 ≠ w.heap.size := by have := HLE.out.2; omega
          clear hx hcn h11 hcut hb HON HBD2
          have GX3 := Lib.hid hx3
          have GX4 := Lib.hid hx4
          have GB := Lib.hid hbel
          clear hx3 hx4 hbel
          go_wp2_with fail
          have hx3 := GX3.out
          have hx4 := GX4.out
          have hbel := GB.out
          clear k1
          obtain ⟨V, hV⟩ : ∃ V, V = wc.drew := ⟨_, rfl⟩
          have v3 : Bx 27 V w.heap.size #[.int .i64 0, .int .i64 0] := by rw [hV]; exact hx3
          have v4 : Bx 27 V (wr.heap.size + 1) #[.int .i64 (a : Int), .int .i64 c] := by rw [hV]; exact hx4
          have vb : Below w.heap.size w V := by rw [hV]; exact Below.drew hbel
          obtain ⟨C, hC⟩ : ∃ C, C = ((V.setCell ⟨w.heap.size, 0, none⟩ (.int .i64 (a : Int))).setCell ⟨w.heap.size, 1, none⟩ (.int .i64 c)) := ⟨_, rfl⟩
          have c3 : Bx 27 C w.heap.size #[.int .i64 (a : Int), .int .i64 c] := by rw [hC]; exact (v3.set 0 (.int .i64 (a : Int))).set 1 (.int .i64 c)
          have cb : Below w.heap.size w C := by rw [hC]; exact Below.setCell (Below.setCell vb (p := ⟨w.heap.size, 0, none⟩) (Nat.le_refl _) _) (p := ⟨w.heap.size, 1, none⟩) (Nat.le_refl _) _
          have V3 := Lib.hid v3
          have V4 := Lib.hid v4
          have CE := Lib.hid (And.intro c3 cb)
          have HV := Lib.hid hV
          have HC9 := Lib.hid hC
          clear v3 v4 vb c3 cb hV hC hx3 hx4 hbel
          refine wp_region_chain (fun n => (#[.agg #[.int .i64 (a : Int), .int .i64 c], .slice none 0 0, undef] : Array Value).getD n undef) (rt1 2 V C) (by kernel_rfl) (by kernel_rfl) (by rw [HV.out]; rfl) ?_ ?_
          · refine ⟨?_, ?_, ?_, trivial⟩
            · intro a0 ls hcl hi hd hoff hf
              left
              refine ⟨rfl, ?_⟩
              have e0 : a0.tmps.getD 11 undef = .pointer (some ⟨(wr.heap.size + 1), 0, none⟩) := hoff.slot 11 (no_dst (by kernel_rfl))
              have h2 : ls 2 = false := hcl.no hi rfl rfl
              have k0 : (rt1 2 V C ls).cell? ⟨(wr.heap.size + 1), 0, none⟩ = some (.int .i64 (a : Int)) := by rw [rt1_0 h2]; exact V4.out.c (j := 0) rfl
              have k1 : (rt1 2 V C ls).cell? ⟨(wr.heap.size + 1), 1, none⟩ = some (.int .i64 c) := by rw [rt1_0 h2]; exact V4.out.c (j := 1) rfl
              go_simp
              all_goals first | exact ⟨rfl, rfl⟩ | exact rfl
            · intro a0 ls hcl hi hd hoff hf
              left
              refine ⟨rfl, ?_⟩
              go_simp
              all_goals first | exact ⟨rfl, rfl⟩ | exact rfl
            · intro a0 ls hcl hi hd hoff hf
              left
              refine ⟨rfl, ?_⟩
              have e0 : a0.tmps.getD 3 undef = .pointer (some ⟨w.heap.size, 0, none⟩) := hoff.slot 3 (no_dst (by kernel_rfl))
              have e1 : a0.tmps.getD 111 undef = .agg #[.int .i64 (a : Int), .int .i64 c] := hf 0 _ (hd 0 rfl) rfl
              have hw : rt1 2 V C (updB ls 2) = C := rt1_k rfl
              rw [hw, rt1_0 hi]
              have k0 := V3.out.c (j := 0) rfl
              have z0 := V3.out.fz 0
              have k1 := V3.out.c (j := 1) rfl
              have z1 := V3.out.fz 1
              have hCC := HC9.out
              go_simp
              all_goals first | exact ⟨rfl, hCC.symm⟩ | exact hCC.symm
          · intro a0 ls hl hoff hf
            rw [rt1_k (hl 2 (by decide))]
            rename_i hK
            have e2 : a0.tmps.getD 2 undef = .slice none 0 0 := hf 1 _ rfl
            have e3 : a0.tmps.getD 3 undef = .pointer (some ⟨w.heap.size, 0, none⟩) := hoff.slot 3 (no_dst (by kernel_rfl))
            have e2' : a0.tmps[2]?.getD undef = .slice none 0 0 := by simpa using e2
            have e3' : a0.tmps[3]?.getD undef = .pointer (some ⟨w.heap.size, 0, none⟩) := by simpa using e3
            have y0 := CE.out.1.c (j := 0) rfl
            have y1 := CE.out.1.c (j := 1) rfl
            refine hK _ _ ?_
            go_wp2
            refine bodyPost_ret (v := .tuple #[.slice none 0 0, fltV a c]) (by simp only [results, Tryz.results7]; simp [results, go_sem, e2', e3', y0, y1]) hoff.defers ?_
            exact MxPost.bad HX.out CE.out.2
        have k11 := h11.c (j := 1) rfl
        have y0 : wc.cell? ⟨wr.heap.size, 0, none⟩ = some (.int .i64 (m.kind : Int)) := h10.c (j := 0) rfl
        have y1 : wc.cell? ⟨wr.heap.size, 1, none⟩ = some (.string ⟨m.name.toArray⟩) := h10.c (j := 1) rfl
        have y2 : wc.cell? ⟨wr.heap.size, 2, none⟩ = some (av) := h10.c (j := 2) rfl
        have y3 : wc.cell? ⟨wr.heap.size, 3, none⟩ = some (.bool m.empty) := h10.c (j := 3) rfl
        have y4 : wc.cell? ⟨wr.heap.size, 4, none⟩ = some (.string ⟨m.text.toArray⟩) := h10.c (j := 4) rfl
        have y5 : wc.cell? ⟨wr.heap.size, 5, none⟩ = some (.int .i64 (m.at_ : Int)) := h10.c (j := 5) rfl
        clear h10 h11 hcut
        rcases ho with ⟨rfl, hko⟩ | ⟨rfl, hk3, ht⟩
        · by_cases hk3 : m.kind = 3
          · have ht : m.text ≠ [] := by rcases hko with h | h; exact absurd hk3 h; exact h
            have hkz : ((m.kind : Int) != 3) = false := by rw [hk3]; rfl
            have hkz2 : ((m.kind : Int) == 3) = true := by rw [hk3]; rfl
            have htz : (m.text == []) = false := beq_eq_false_iff_ne.2 ht
            have htz2 : (m.text != []) = true := bne_iff_ne.2 ht
            have htz3 : m.text.isEmpty = false := by cases h : m.text with | nil => exact absurd h ht | cons x y => rfl
            clear hko hk3
            have HNX := Lib.hid (HON.out _ _ hst)
            have HLN : Hid (zz.length ≤ 65536) := Lib.hid (by have h1 := congrArg List.length HRun.out.2.2; rw [List.length_map] at h1; have := HRun.out.2.1; have := HI.out; omega)
            obtain ⟨A, cp, rfl⟩ := own_slice hA
            obtain ⟨Q5, cq, rfl⟩ := own_slice HS.out.row.row
            have HM := Lib.hid (HS.out.row.below (hb.alloc hb.size (.cells (mkC (m, .slice A m.attrs.length cp)).toArray 36)))
            have HAR : Hid (AR (wc.alloc (.cells (mkC (m, .slice A m.attrs.length cp)).toArray 36)) (w.heap.size + 1) (.slice A m.attrs.length cp) m.attrs) := Lib.hid (own_mono (World.ownsRow.alloc hA _) (by have := HLE.out.2; omega))
            have HAP := Lib.hid hap
            have HC3 := Lib.hid ((HS.out.b3.below hb HLE.out.2).alloc (.cells (mkC (m, .slice A m.attrs.length cp)).toArray 36))
            have HBE : Hid (Below w.heap.size w (wc.alloc (.cells (mkC (m, .slice A m.attrs.length cp)).toArray 36))) := Lib.hid ((HS.out.bel.trans (hb.mono (Nat.le_of_lt HLE.out.2))).alloc (by have := hb.size; have := HLE.out.2; omega) _)
            have HSZ : Hid (w.heap.size + 1 ≤ (wc.alloc (.cells (mkC (m, .slice A m.attrs.length cp)).toArray 36)).heap.size) := Lib.hid (by have := hb.size; have := HLE.out.2; simp; omega)
            clear hap hA hst hb HON HBD2
            go_wp2_with (at_builtin; go_must (refine wpList_append_mk rfl (.tmp 120) (.tmp 122) rfl (w.heap.size + 1) (.slice Q5 zz.length cq) zz m (.slice A m.attrs.length cp) wc.heap.size rfl HM.out rfl (heap_at _ _ _ rfl) HAR.out HAP.out HLN.out HSZ.out ?_); go_must (intro A8 c8 w8 hown8 hgrow8); go_must (have J3 := Lib.hid (HC3.out.grown hgrow8 (HM.out.ne (Nat.lt_succ_self _)))); go_must (have JB := Lib.hid (HBE.out.grown hgrow8 HBE.out.size (fun k hk => by have := (HM.out.row.lt k hk).1; omega))); have JR := Lib.hid hown8; clear hown8 hgrow8)
            go_roundg (s.size - i2)
            case measure => have := HNX.out; omega
            case rel => exact ⟨j + N, zs ++ [some m], .slice A8 (zz.length + 1) c8, zz ++ [(m, .slice A m.attrs.length cp)], rfl, by rw [HNX.out.2.1, hi2], by rw [HNX.out.2.1]; exact HNX.out.2.2.1, by rw [HNX.out.2.1, hi2]; exact Nat.le_refl _, (show _ ∧ _ ∧ _ from ⟨HNX.out.1, by rw [fm_snoc, List.length_append]; have := HRun.out.2.1; have := HNX.out.2.2.2; simp; omega, by rw [fm_snoc, List.map_append, HRun.out.2.2]; rfl⟩), ⟨J3.out, JB.out, JR.out⟩⟩
          · have hkz : ((m.kind : Int) != 3) = true := bne_iff_ne.2 (by omega)
            have hkz2 : ((m.kind : Int) == 3) = false := beq_eq_false_iff_ne.2 (by omega)
            clear hko hk3
            have HNX := Lib.hid (HON.out _ _ hst)
            have HLN : Hid (zz.length ≤ 65536) := Lib.hid (by have h1 := congrArg List.length HRun.out.2.2; rw [List.length_map] at h1; have := HRun.out.2.1; have := HI.out; omega)
            obtain ⟨A, cp, rfl⟩ := own_slice hA
            obtain ⟨Q5, cq, rfl⟩ := own_slice HS.out.row.row
            have HM := Lib.hid (HS.out.row.below (hb.alloc hb.size (.cells (mkC (m, .slice A m.attrs.length cp)).toArray 36)))
            have HAR : Hid (AR (wc.alloc (.cells (mkC (m, .slice A m.attrs.length cp)).toArray 36)) (w.heap.size + 1) (.slice A m.attrs.length cp) m.attrs) := Lib.hid (own_mono (World.ownsRow.alloc hA _) (by have := HLE.out.2; omega))
            have HAP := Lib.hid hap
            have HC3 := Lib.hid ((HS.out.b3.below hb HLE.out.2).alloc (.cells (mkC (m, .slice A m.attrs.length cp)).toArray 36))
            have HBE : Hid (Below w.heap.size w (wc.alloc (.cells (mkC (m, .slice A m.attrs.length cp)).toArray 36))) := Lib.hid ((HS.out.bel.trans (hb.mono (Nat.le_of_lt HLE.out.2))).alloc (by have := hb.size; have := HLE.out.2; omega) _)
            have HSZ : Hid (w.heap.size + 1 ≤ (wc.alloc (.cells (mkC (m, .slice A m.attrs.length cp)).toArray 36)).heap.size) := Lib.hid (by have := hb.size; have := HLE.out.2; simp; omega)
            clear hap hA hst hb HON HBD2
            go_wp2_with (at_builtin; go_must (refine wpList_append_mk rfl (.tmp 120) (.tmp 122) rfl (w.heap.size + 1) (.slice Q5 zz.length cq) zz m (.slice A m.attrs.length cp) wc.heap.size rfl HM.out rfl (heap_at _ _ _ rfl) HAR.out HAP.out HLN.out HSZ.out ?_); go_must (intro A8 c8 w8 hown8 hgrow8); go_must (have J3 := Lib.hid (HC3.out.grown hgrow8 (HM.out.ne (Nat.lt_succ_self _)))); go_must (have JB := Lib.hid (HBE.out.grown hgrow8 HBE.out.size (fun k hk => by have := (HM.out.row.lt k hk).1; omega))); have JR := Lib.hid hown8; clear hown8 hgrow8)
            go_roundg (s.size - i2)
            case measure => have := HNX.out; omega
            case rel => exact ⟨j + N, zs ++ [some m], .slice A8 (zz.length + 1) c8, zz ++ [(m, .slice A m.attrs.length cp)], rfl, by rw [HNX.out.2.1, hi2], by rw [HNX.out.2.1]; exact HNX.out.2.2.1, by rw [HNX.out.2.1, hi2]; exact Nat.le_refl _, (show _ ∧ _ ∧ _ from ⟨HNX.out.1, by rw [fm_snoc, List.length_append]; have := HRun.out.2.1; have := HNX.out.2.2.2; simp; omega, by rw [fm_snoc, List.map_append, HRun.out.2.2]; rfl⟩), ⟨J3.out, JB.out, JR.out⟩⟩
        · have hkz : ((m.kind : Int) != 3) = false := by rw [hk3]; rfl
          have hkz2 : ((m.kind : Int) == 3) = true := by rw [hk3]; rfl
          rw [ht] at y4
          have HNX := Lib.hid (HON.out _ _ hst)
          have HD2 : Hid (DB w wc u5 zz) := Lib.hid ⟨HS.out.b3.below hb HLE.out.2, HS.out.bel.trans (hb.mono (Nat.le_of_lt HLE.out.2)), HS.out.row.below hb⟩
          clear hk3 ht hA hap hst hb HON HBD2
          go_wp2_with fail
          go_roundg (s.size - i2)
          case measure => have := HNX.out; omega
          case rel => exact ⟨j + N, zs ++ [none], _, zz, rfl, by rw [HNX.out.2.1, hi2], by rw [HNX.out.2.1]; exact HNX.out.2.2.1, by rw [HNX.out.2.1, hi2]; exact Nat.le_refl _, (show _ ∧ _ ∧ _ from ⟨HNX.out.1, by rw [fm_snoc, List.length_append]; have := HRun.out.2.1; simp; omega, by rw [fm_snoc, HRun.out.2.2]; simp⟩), HD2.out⟩
/-- the document's Marks does what resO says -/
theorem dMarks_any (s : ByteArray) (hl : s.size ≤ 140737488355328) (w : World) :
    Calls Tryz.prog 7 #[.string s] w (MxPost w (resO s.data.toList)) := by
  cases hc : chkO s.data.toList with
  | some x => exact dMarks_chk s hl hc w
  | none =>
    refine dMarks_go s ?_ hc w
    unfold chkO at hc
    split at hc
    · cases hc
    · rw [size_toList] at *; omega
end Go.Proofs.YtbokcihlbpeagaaGreatDoor

/- What is proved: the walk of the law MarkupReads. Conditions: those in each statement. -/
namespace Go.Proofs.YtbokcihlbpeagaaGreatDoor
open Go.RowKit

theorem MR.len {w : World} {B : Nat} {v : Value} {l : List (Mk × Value)} (h : MR w B v l) : l.length ≤ 9223372036854775807 := by
  rcases h.row.2 with ⟨_, h1⟩ | ⟨_, cap, _, _, _, _, h1, h2, _⟩
  · omega
  · exact Nat.le_trans h1 (Nat.le_trans h2 (by unfold maxLen; decide))
/-- both documents' answers, and that Same holds of them in any later world -/
def Twin (w2 : World) (v1 v2 : Value) : Prop := ∀ W : World, Below w2.heap.size w2 W → Calls Tryz.prog 9 #[v1, v2] W fun e w' => e = .returned (.bool true) ∧ Below W.heap.size W w'
set_option maxHeartbeats 4000000 in
set_option maxRecDepth 100000 in
theorem reads_rest (w : World) (s : ByteArray) (hG : Glob w) (x : Nat) (c : Int)
    (HM : Hid (∀ W : World, Glob W → Calls Tryz.prog 6 #[.string s] W fun e w1 => Below W.heap.size W w1 ∧ ∃ v1, e = .returned (.tuple #[v1, .int .i64 (x : Int), .int .i64 c]) ∧
      Calls Tryz.prog 7 #[.string s] w1 fun e w2 => Below w1.heap.size w1 w2 ∧ ∃ v2, e = .returned (.tuple #[v2, .agg #[.int .i64 (x : Int), .int .i64 c]]) ∧ Twin w2 v1 v2)) :
    Calls Tryz.prog 3 #[.string s] w fun e w' => e = .returned (.bool true) ∧ Below w.heap.size w w' := by
  have HAW := Lib.hid (fun W (hW : Glob W) => awake_any W hW)
  have HG := Lib.hid hG
  have hcc : (c == c) = true := beq_self_eq_true c
  have hxx : ((x : Int) == (x : Int)) = true := beq_self_eq_true _
  clear hG
  go_enter Tryz.func3, Tryz.ntmps3
  go_wp2_with fail
  refine (HM.out _ HG.out).mono ?_
  rintro e w1 ⟨hb1, v1, rfl, hD⟩
  have HD := Lib.hid hD
  have HB1 := Lib.hid hb1
  clear hD hb1
  go_wp2_with fail
  refine HD.out.mono ?_
  rintro e w2 ⟨hb2, v2, rfl, ht⟩
  have HT := Lib.hid ht
  have HB2 := Lib.hid (HB1.out.trans (hb2.mono HB1.out.size))
  clear hb2 ht
  have HW3 : Hid (Bx 27 (w2.alloc (.cells #[.int .i64 (x : Int), .int .i64 c] 27)) w2.heap.size #[.int .i64 (x : Int), .int .i64 c] ∧ Below w2.heap.size w2 (w2.alloc (.cells #[.int .i64 (x : Int), .int .i64 c] 27))) := Lib.hid ⟨Bx.new _ _ _, (Below.refl _ _).alloc (Nat.le_refl _) _⟩
  go_wp2_with (first
    | (go_at_call 8; refine (HAW.out _ (HG.out.below (HB2.out.trans (HW3.out.2.mono HB2.out.size)) HG.out.size)).mono ?_; rintro e w3 ⟨rfl, hb3⟩; have HB3 := Lib.hid (HB2.out.trans ((HW3.out.2.mono HB2.out.size).trans (hb3.mono (Nat.le_trans HB2.out.size HW3.out.2.size)))); have HC3 := Lib.hid (HW3.out.2.trans (hb3.mono HW3.out.2.size)); have k0 := (HW3.out.1.below hb3 HW3.out.1.lt).c (j := 0) rfl; have k1 := (HW3.out.1.below hb3 HW3.out.1.lt).c (j := 1) rfl; clear hb3)
    | (go_at_call 9; refine (HT.out _ HC3.out).mono ?_; rintro e w4 ⟨rfl, hb4⟩; have HB4 := Lib.hid (HB3.out.trans (hb4.mono HB3.out.size)); clear hb4))
  go_ret
  exact ⟨rfl, HB4.out⟩
/-- MarkupReads answers true -/
theorem reads_any (w : World) (s : ByteArray) (hG : Glob w) (hl : s.size ≤ 140737488355328) :
    Calls Tryz.prog 3 #[.string s] w fun e w' => e = .returned (.bool true) ∧ Below w.heap.size w w' := by
  have H1 := fun W (hW : Glob W) => marks_any W s hW
  have H2 := fun W => dMarks_any s hl W
  cases hR : resO s.data.toList with
  | inl ms =>
    rw [hR] at H1 H2
    refine reads_rest w s hG 0 0 (Lib.hid fun W hW => (H1 W hW).mono ?_)
    rintro e w1 ⟨hb1, v1, B1, zs1, hz1, rfl, -, hm1⟩
    refine ⟨hb1, v1, rfl, (H2 w1).mono ?_⟩
    rintro e w2 ⟨hb2, v2, B2, zs2, hz2, rfl, -, hm2⟩
    exact ⟨hb2, v2, rfl, fun W hW => Same_any W B1 B2 v1 v2 zs1 zs2 (MR.below (MR.below hm1 hb2) hW) (MR.below hm2 hW) (hz1.trans hz2.symm) hm1.len⟩
  | inr xc =>
    obtain ⟨x, c⟩ := xc
    rw [hR] at H1 H2
    refine reads_rest w s hG x c (Lib.hid fun W hW => (H1 W hW).mono ?_)
    rintro e w1 ⟨hb1, rfl⟩
    refine ⟨hb1, _, rfl, (H2 w1).mono ?_⟩
    rintro e w2 ⟨hb2, rfl⟩
    exact ⟨hb2, _, rfl, fun W hW => Same_any W 0 0 _ _ [] [] (MR.nil _ _) (MR.nil _ _) rfl (Nat.zero_le _)⟩
end Go.Proofs.YtbokcihlbpeagaaGreatDoor

/- What is proved: MarkupReads answers true, and each argument reads behind the call as before it, for every input (the first form of the statement; the card). No condition. -/
namespace Go.Proofs.YtbokcihlbpeagaaGreatDoor
open Go.ChangeShapes Go.WideShapes Go.ChangeAt Go.RowKit
open Go.ChangeMaps (open_string shut_string)

/-- a world for the witness: what the initialisers lay, and Go's own table beside it -/
def firstCells : Array Value := match Go.Pinned.utf8First with
  | .agg ds => (ds.map fun d => match d with
    | .lit (.int k z) => Value.int k z
    | _ => .nilIface).toArray
  | _ => #[]
noncomputable def markupWorld (os : Os) : World :=
  { World.doorLaid Tryz.prog 400 os with heap := (World.doorLaid Tryz.prog 400 os).heap.modify 3 fun
      | .cells _ t frozen => .cells firstCells t frozen
      | o => o }
set_option maxRecDepth 100000 in
theorem reads_met (os : Os) : laidMetH Tryz.prog Rows.markupReadsRow.laid ((markupWorld os).forCall (fun _ _ => 0) ⟨#[], #[.string ByteArray.empty], []⟩).memory :=
  laidMetH_of_parts3 (fuel := 8) (laidMet_of_run' 8 (by kernel_rfl) (by kernel_rfl)) (by kernel_rfl) (by kernel_rfl)
set_option maxRecDepth 100000 in
theorem reads_reads (os : Os) {H : Type} (enc : TypeId × Value → H) : ∃ places, DataW.whole enc Tryz.prog ((markupWorld os).forCall (fun _ _ => 0) ⟨#[], #[.string ByteArray.empty], []⟩).memory Tryz.f3.params.toList Rows.markupReadsSpec.vars false #[Value.string ByteArray.empty].toList 8 = some ([.lit (.string [])], [], places) :=
  ⟨[], by kernel_rfl⟩
set_option maxRecDepth 100000 in
theorem reads_lifted (os : Os) (started : os.Started) (H : Type) (enc : TypeId × Value → H) (F : Stop.Interp) :
    ReturnsInHanded {} Tryz.checked os 3 .any ((OpenSpec.ofChange Rows.markupReadsSpec).preRow enc Tryz.prog Tryz.f3 Rows.markupReadsRow.domain false Rows.markupReadsRow.laid) (((OpenSpec.ofChange Rows.markupReadsSpec).at F).post enc Tryz.prog Tryz.f3 false true false false) := by
  obtain ⟨places, hx⟩ := reads_reads os enc
  refine returnsInHanded_of_row (C := Tryz.checked) (s := OpenSpec.ofChange Rows.markupReadsSpec) own started (by kernel_rfl) Tryz.func3
    (witness_row_atRef (enc := enc) (C := Tryz.checked) false (markupWorld os) #[.string ByteArray.empty] rfl (by kernel_rfl) (by kernel_rfl) (by kernel_rfl)
      (OpenSpec.preRow_of_cond 8 hx (by kernel_rfl) (fun k hk => by cases hk) (by kernel_rfl) (reads_met os))) ?_
  intro W base args ds gs before hval0 hW _ _ hsz0 hL hS _
  have hval : ∀ (j : Nat) t v, Tryz.f3.params[j]? = some t → args[j]? = some v → Value.okWide Tryz.prog W .any base t v := hval0
  have hsz : (DataW.weightsEach Tryz.prog (Tryz.f3.params.toList ++ Rows.markupReadsSpec.plain.varTypes Tryz.prog) (ds ++ gs)).all (· ≤ reachBytes) = true := hsz0
  have hW' := hW
  obtain ⟨p, q, hA0, hV, rfl, hfz, hnd⟩ := hW
  have hA : DataW.TrodAll enc Tryz.prog W 0 (fun _ => true) true Tryz.f3.params.toList args.toList ds p := hA0
  rw [Tryz.params3] at hA hval hsz
  obtain ⟨v0, vs0, d0, ds0, p0, q0, hargs, rfl, rfl, h0, r0⟩ := trodAll_cons hA
  obtain ⟨rfl, rfl, rfl⟩ := trodAll_nil r0
  obtain rfl : args = #[v0] := by cases args; simp_all
  obtain ⟨rfl, rfl⟩ := trodVars_none hV
  obtain ⟨a0, rfl, rfl, rfl, w0⟩ := open_string Tryz.underlying9 (hval 0 9 v0 rfl rfl) h0
  have hs0 : a0.size ≤ 140737488351232 := by
    have := sized_string hsz (j := 0) (t := 9) rfl rfl
    have e : a0.data.toList.length = a0.size := by rw [Array.length_toList]; rfl
    simp only [reachBytes] at this
    omega
  have hG : Glob W := glob_of hL hS
  clear hA0 hval0 hL hS
  refine (reads_any W a0 hG (by omega)).mono fun e W' ⟨he, bel⟩ => ?_
  subst he
  exact ⟨_, rfl, _, _, _, [], _, [], hW', trodAll_mk1 (shut_bool Tryz.underlying4 _), (trodAll_cons_mk (shut_string Tryz.underlying9 w0) trodAll_mk0), rfl, bel.frame _, fun h => by cases h⟩

theorem reads_said : Rows.MarkupReadsSaid :=
  OpenClaim.holds_of_cond 3 Tryz.f3 rfl rfl rfl rfl rfl rfl rfl ⟨rfl, rfl, rfl, rfl, rfl⟩ rfl rfl rfl rfl rfl (by kernel_rfl) Tryz.func3 (by kernel_rfl)
    (of_decide_eq_true (by kernel_rfl)) (by unfold Func.isWrapper; first | (rw [if_pos (by decide +kernel)]; kernel_rfl) | (rw [if_neg (by decide +kernel)]; exact ⟨rfl, rfl⟩))
    (fun os started H enc _ F => by rw [OpenClaim.pre_eq_preRow]; exact reads_lifted os started H enc F)
/-- No parameter wants a stand-in: what the card asks. -/
theorem reads_plain (f : FuncId) (fn : Func) (hf : Tryz.pinned.checked.prog.funcNamed "pavane/pavanelaw08.MarkupReads" = some f) (hfn : Tryz.pinned.checked.prog.funcs[f]? = some fn) :
    true = Tryz.pinned.checked.prog.looks [] ∧ ∀ (j : Nat) t, fn.params[j]? = some t → Tryz.pinned.checked.prog.wantsStandIn t = false := by
  obtain rfl : f = 3 := Option.some.inj ((show Tryz.prog.funcNamed "pavane/pavanelaw08.MarkupReads" = some 3 by kernel_rfl).symm.trans hf) |>.symm
  obtain rfl : fn = Tryz.f3 := (Option.some.inj (Tryz.func3.symm.trans hfn)).symm
  refine ⟨by kernel_rfl, fun j t ht => ?_⟩
  rw [Tryz.params3] at ht
  obtain rfl : t = 9 := by simpa using Array.mem_of_getElem? ht
  exact (show Tryz.prog.wantsStandIn 9 = false by kernel_rfl)
/-- ████ THE CARD ████ -/
theorem MarkupReads_holds : Rows.MarkupReadsCardSaid :=
  Claim7.holds_tied_plain_at .later [] _ _ _ _ reads_said (fun _ h => by cases h) (by kernel_rfl) (fun _ h => by cases h) markupReads_row_tie rfl ⟨rfl, rfl⟩ (by kernel_rfl) rfl reads_plain (by kernel_rfl)
#print axioms MarkupReads_holds
end Go.Proofs.YtbokcihlbpeagaaGreatDoor
