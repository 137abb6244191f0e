/-
  What is proved: what the journal's Append answers and leaves. Conditions: the journal and its disk lie in memory as they must, its area lies on the disk, numbers are small.
-/
import Derived.Test.YtbfhlleipeipbaaJw
import Derived.Test.YtbfhlleipeipbaaSsd
namespace Go.Proofs.Ytbfhlleipeipbaa
open Go.RowKit

/-- a journal in memory -/
def Jn (w : World) (j g : Nat) (f t e c : Int) : Prop := w.heap[j]? = some (.cells #[.pointer (some ⟨g, 0, none⟩), .int .i64 f, .int .i64 t, .int .i64 e, .int .i64 c] 76 (0, 0))
theorem jn_cells {w : World} {j g : Nat} {f t e c : Int} (h : Jn w j g f t e c) : w.cell? ⟨j, 0, none⟩ = some (.pointer (some ⟨g, 0, none⟩)) ∧ w.cell? ⟨j, 1, none⟩ = some (.int .i64 f) ∧ w.cell? ⟨j, 2, none⟩ = some (.int .i64 t) ∧ w.cell? ⟨j, 3, none⟩ = some (.int .i64 e) ∧ w.cell? ⟨j, 4, none⟩ = some (.int .i64 c) ∧ ∀ x, w.frozen? ⟨j, x, none⟩ = false := by
  unfold Jn at h
  refine ⟨?_, ?_, ?_, ?_, ?_, fun x => by simp [World.frozen?, h]⟩
  · rw [cell_of_row w j 0 _ 76 (0, 0) h]; rfl
  · rw [cell_of_row w j 1 _ 76 (0, 0) h]; rfl
  · rw [cell_of_row w j 2 _ 76 (0, 0) h]; rfl
  · rw [cell_of_row w j 3 _ 76 (0, 0) h]; rfl
  · rw [cell_of_row w j 4 _ 76 (0, 0) h]; rfl
theorem jend_any (w : World) (j g : Nat) (f t e c : Int) (h : Jn w j g f t e c) : Calls Try.prog 54 #[.pointer (some ⟨j, 0, none⟩)] w fun x w' => x = .returned (.int .i64 e) ∧ w' = w := by
  obtain ⟨_, _, _, j3, _, _⟩ := jn_cells h
  clear h
  go_enter Try.func54, Try.ntmps54
  go_wp2
  go_ret
  exact ⟨rfl, rfl⟩
theorem jcount_any (w : World) (j g : Nat) (f t e c : Int) (h : Jn w j g f t e c) : Calls Try.prog 55 #[.pointer (some ⟨j, 0, none⟩)] w fun x w' => x = .returned (.int .i64 c) ∧ w' = w := by
  obtain ⟨_, _, _, _, j4, _⟩ := jn_cells h
  clear h
  go_enter Try.func55, Try.ntmps55
  go_wp2
  go_ret
  exact ⟨rfl, rfl⟩

/-- the line that lays the place of a frame: what holds, by what has come up -/
def plJ (V : World) (x y : Int) (ls : Nat → Bool) (a : Act) (w : World) : Prop :=
  Below V.heap.size V w ∧ (ls 10 = true → ∃ k, a.tmps.getD 6 undef = .pointer (some ⟨k, 0, none⟩) ∧ V.heap.size ≤ k ∧ w.heap[k]? = some (.cells (if ls 11 = true then #[.int .i64 x, .int .i64 y] else #[.int .i64 0, .int .i64 0]) 74 (0, 0)))
section
variable {V w w' : World} {x y : Int} {ls : Nat → Bool} {a : Act} {i : Nat} {d : Option Tmp}
theorem plJ.grow (h : plJ V x y ls a w) (h1 : i ≠ 10) (h2 : i ≠ 11) (hd : d ≠ some 6) (v : Value) (hb : Below w.heap.size w w') : plJ V x y (updB ls i) (a.put d v) w' := by
  refine ⟨h.1.trans (hb.mono h.1.size), fun h10 => ?_⟩
  rw [updB_other ls (Ne.symm h1)] at h10
  obtain ⟨k, e, hk, hb'⟩ := h.2 h10
  rw [updB_other ls (Ne.symm h2)]
  exact ⟨k, by rw [put_other a d v 6 hd]; exact e, hk, (hb.block k (Array.getElem?_eq_some_iff.1 hb').1).trans hb'⟩
theorem plJ.made (h : plJ V x y ls a w) (h11 : ls 11 = false) (hs : 6 < a.tmps.size) : plJ V x y (updB ls 10) (a.put (some 6) (.pointer (some ⟨w.heap.size, 0, none⟩))) (w.alloc (.cells #[.int .i64 0, .int .i64 0] 74)) := by
  refine ⟨h.1.alloc h.1.size _, fun _ => ⟨w.heap.size, put_at a 6 _ hs, h.1.size, ?_⟩⟩
  rw [updB_other ls (by decide : 11 ≠ 10), h11]
  exact heap_alloc_new _ _
theorem plJ.stored (h : plJ V x y ls a w) {k : Nat} (e : a.tmps.getD 6 undef = .pointer (some ⟨k, 0, none⟩)) (hk : V.heap.size ≤ k) (hb : w.heap[k]? = some (.cells #[.int .i64 0, .int .i64 0] 74 (0, 0))) (v : Value) :
    plJ V x y (updB ls 11) (a.put none v) ((w.setCell ⟨k, 0, none⟩ (.int .i64 x)).setCell ⟨k, 1, none⟩ (.int .i64 y)) := by
  refine ⟨(h.1.setCell (p := ⟨k, 0, none⟩) hk _).setCell (p := ⟨k, 1, none⟩) hk _, fun _ => ⟨k, e, hk, ?_⟩⟩
  rw [updB_at]
  have := heap_setCell_at (heap_setCell_at hb 0 (.int .i64 x)) 1 (.int .i64 y)
  simpa using this
theorem plJ.pure (h : plJ V x y ls a w) (h1 : i ≠ 10) (h2 : i ≠ 11) (hd : d ≠ some 6) (v : Value) : plJ V x y (updB ls i) (a.put d v) w := h.grow h1 h2 hd v (Below.refl _ _)
end
def plF (j : Nat) (f t en m : Int) : Nat → Value → Prop
  | 0, v | 1, v | 4, v | 5, v => v = .pointer (some ⟨j, 0, none⟩)
  | 2, v => v = .pointer (some ⟨j, 1, none⟩)
  | 3, v => v = .agg #[.int .i64 f, .int .i64 t]
  | 6, v => v = .pointer (some ⟨j, 3, none⟩)
  | 7, v => v = .int .i64 en
  | 8, v => v = .int .i64 (en + 16 + m)
  | 9, v => v = .agg #[.int .i64 (f + en), .int .i64 (f + (en + 16 + m))]
  | _, _ => True

/-- bytes with an answer beside them, and bytes, in memory -/
def bfT (r : Nat) (ah : List UInt8) (v : Value) (w : World) : Prop := ∃ A c, v = .tuple #[.slice A r c, .int .i64 0] ∧ Hold w A r c ah
def bfS (r : Nat) (ah : List UInt8) (v : Value) (w : World) : Prop := ∃ A c, v = .slice A r c ∧ Hold w A r c ah
def bfF (j g k : Nat) (x : Int) (r : Nat) (ah : List UInt8) : Nat → Value → World → Prop
  | 0, v, _ | 1, v, _ | 2, v, _ => v = .pointer (some ⟨j, 0, none⟩)
  | 3, v, _ => v = .pointer (some ⟨g, 0, none⟩)
  | 4, v, _ => v = .pointer (some ⟨k, 0, none⟩)
  | 5, v, _ => v = .int .i64 x
  | 6, v, w | 7, v, w => bfT r ah v w
  | 8, v, w | 10, v, w => bfS r ah v w
  | _, v, _ => v = .int .i64 0
theorem bfF_mono {j g k : Nat} {x : Int} {r : Nat} {ah : List UInt8} : ∀ (i : Nat) (v : Value) (w w' : World), bfF j g k x r ah i v w → Below w.heap.size w w' → bfF j g k x r ah i v w'
  | 0, _, _, _, h, _ => h
  | 1, _, _, _, h, _ => h
  | 2, _, _, _, h, _ => h
  | 3, _, _, _, h, _ => h
  | 4, _, _, _, h, _ => h
  | 5, _, _, _, h, _ => h
  | 6, _, _, _, ⟨A, c, e, h⟩, hb => ⟨A, c, e, h.below hb⟩
  | 7, _, _, _, ⟨A, c, e, h⟩, hb => ⟨A, c, e, h.below hb⟩
  | 8, _, _, _, ⟨A, c, e, h⟩, hb => ⟨A, c, e, h.below hb⟩
  | 9, _, _, _, h, _ => h
  | 10, _, _, _, ⟨A, c, e, h⟩, hb => ⟨A, c, e, h.below hb⟩
  | (_ + 11), _, _, _, h, _ => h
def bdF (j g k : Nat) (x : Int) : Nat → Value → Prop
  | 0, v | 1, v | 2, v => v = .pointer (some ⟨j, 0, none⟩)
  | 3, v => v = .pointer (some ⟨g, 0, none⟩)
  | 4, v => v = .pointer (some ⟨k, 0, none⟩)
  | 5, v => v = .int .i64 x
  | 6, v | 7, v => v = .tuple #[.slice none 0 0, .int .i64 32]
  | 8, v | 10, v => v = .slice none 0 0
  | _, v => v = .int .i64 32
/-- the line that writes a frame: what holds, by what has come up -/
def frJ (Y : World) (g L : Nat) (q : Option Nat) (M : Nat) (l : List UInt8) (s' : D) (ls : Nat → Bool) (a : Act) (w : World) : Prop :=
  (ls 8 = false → Below Y.heap.size Y w) ∧ (ls 8 = true → After Y w g L q s') ∧ (ls 7 = true → ls 8 = false → ∃ A c, a.tmps.getD 58 undef = .slice A M c ∧ w.ownsRow Y.heap.size 5 1 (.slice A M c) M (bv l))
section
variable {Y w w' : World} {g L M : Nat} {q : Option Nat} {l : List UInt8} {s s' : D} {ls : Nat → Bool} {a : Act} {i : Nat} {d : Option Tmp}
theorem frJ.keep (h : frJ Y g L q M l s' ls a w) (hd : Dk Y g L q s) {b : Nat} {C : Array Value} {t : TypeId} {fr : Nat × Nat} (hb : Y.heap[b]? = some (.cells C t fr)) (h1 : t ≠ 61) (h2 : t ≠ 88) (h3 : t ≠ 90) : w.heap[b]? = some (.cells C t fr) := by
  cases h8 : ls 8 with
  | false => exact ((h.1 h8).block b (Array.getElem?_eq_some_iff.1 hb).1).trans hb
  | true => exact (h.2.1 h8).keep hd hb h1 h2 h3
theorem frJ.pure (h : frJ Y g L q M l s' ls a w) (h1 : i ≠ 7) (h2 : i ≠ 8) (hd : d ≠ some 58) (v : Value) : frJ Y g L q M l s' (updB ls i) (a.put d v) w := by
  unfold frJ
  rw [updB_other ls (Ne.symm h1), updB_other ls (Ne.symm h2), put_other a d v 58 hd]
  exact h
theorem frJ.framed (h8 : ls 8 = false) (hbw : Below Y.heap.size Y w) (hb : Below w.heap.size w w') {A : Option Addr} {c : Nat} (ho : w'.ownsRow Y.heap.size 5 1 (.slice A M c) M (bv l)) (hs : 58 < a.tmps.size) : frJ Y g L q M l s' (updB ls 7) (a.put (some 58) (.slice A M c)) w' := by
  unfold frJ
  rw [updB_other ls (by decide : 8 ≠ 7), h8]
  exact ⟨fun _ => hbw.trans (hb.mono hbw.size), fun h => (by cases h), fun _ _ => ⟨A, c, put_at a 58 _ hs, ho⟩⟩
theorem frJ.wrote (hbw : Below Y.heap.size Y w) (ha : After w w' g L q s') (a' : Act) : frJ Y g L q M l s' (updB ls 8) a' w' := by
  unfold frJ
  rw [updB_at]
  exact ⟨fun h => (by cases h), fun _ => After.trans (Chg.of_below hbw) (fun _ h => .inl h) ha, fun _ h => (by cases h)⟩
end
def frF (j g : Nat) (x y : Int) (A7 : Option Addr) (r c7 : Nat) (A : Option Addr) (m c : Nat) (er : Int) : Nat → Value → Prop
  | 0, v | 1, v | 2, v => v = .pointer (some ⟨j, 0, none⟩)
  | 3, v => v = .pointer (some ⟨g, 0, none⟩)
  | 4, v => v = .agg #[.int .i64 x, .int .i64 y]
  | 5, v => v = .slice A7 r c7
  | 6, v => v = .slice A m c
  | 7, _ => True
  | _, v => v = .int .i64 er

/-- what Append leaves: the disk, the journal, and that nothing else has turned -/
def JAfter (w w' : World) (j g L : Nat) (q : Option Nat) (f t en cn : Int) (s : D) : Prop :=
  ∃ q', Dk w' g L q' s ∧ (∀ k, q' = some k → q = some k ∨ w.heap.size ≤ k) ∧ Chg (fun b => Foot g L q b ∨ b = j) w w' ∧ Jn w' j g f t en cn
theorem JAfter.of_after {w w' : World} {j g L : Nat} {q : Option Nat} {f t en cn : Int} {s s' : D} (hd : Dk w g L q s) (h : After w w' g L q s') (hj : Jn w j g f t en cn) : JAfter w w' j g L q f t en cn s' := by
  have hj' : Jn w' j g f t en cn := h.keep hd hj (by decide) (by decide) (by decide)
  obtain ⟨q', a, b, c⟩ := h
  exact ⟨q', a, c, b.mono (fun _ h => .inl h), hj'⟩
theorem JAfter.set {w w' : World} {j g L : Nat} {q : Option Nat} {f t en cn : Int} {s : D} (h : JAfter w w' j g L q f t en cn s) (en' cn' : Int) : JAfter w ((w'.setCell ⟨j, 3, none⟩ (.int .i64 en')).setCell ⟨j, 4, none⟩ (.int .i64 cn')) j g L q f t en' cn' s := by
  obtain ⟨q', a, b, c, e⟩ := h
  have e1 := heap_setCell_at (heap_setCell_at e 3 (.int .i64 en')) 4 (.int .i64 cn')
  refine ⟨q', a.frame fun x hx => ?_, b, (c.setCell (p := ⟨j, 3, none⟩) (.inl (.inr rfl)) _).setCell (p := ⟨j, 4, none⟩) (.inl (.inr rfl)) _, by unfold Jn; simpa using e1⟩
  have hne : x ≠ j := fun he => a.other (b := j) e (by decide) (by decide) (by decide) (he ▸ hx)
  rw [Below.heap_setCell _ _ _ _ hne, Below.heap_setCell _ _ _ _ hne]
/-- the sectors that a frame is written to, and what -/
def D.appL (s : D) (k r : Nat) (b : List UInt8) : List UInt8 := (s.told k).take r ++ frameOf b
def D.appW (s : D) (k r : Nat) (b : List UInt8) : D := s.wrs k (s.appL k r b) ((r + 8 + 8 + b.length + 63) / 64)
def AppPost (w : World) (j g L : Nat) (q : Option Nat) (f t en cn : Int) (s : D) (k r m : Nat) (b : List UInt8) (e : Ending) (w' : World) : Prop :=
  if s.left = 0 then e = .returned (.int .i64 32) ∧ JAfter w w' j g L q f t en cn s
  else e = .returned (.int .i64 (s.appW k r b).fErr) ∧ JAfter w w' j g L q f t (if (s.appW k r b).fErr = 0 then en + 16 + m else en) (if (s.appW k r b).fErr = 0 then cn + 1 else cn) (s.appW k r b).fSt

set_option maxRecDepth 100000 in
set_option maxHeartbeats 2000000 in
theorem append_fits (w : World) (j g L : Nat) (q : Option Nat) (s : D) (hD : Dk w g L q s) (f t en cn : Int) (A : Option Addr) (m c : Nat) (b : List UInt8) (hb : Hold w A m c b) (hf0 : 0 ≤ f) (hf1 : f ≤ 4194368) (ht0 : 0 ≤ t) (ht1 : t ≤ 4194368) (hen0 : 0 ≤ en) (hen1 : en ≤ 4194368) (hcn0 : 0 ≤ cn) (hcn1 : cn ≤ 1099511627776)
    (hm : m ≤ 1048576) (hfit : ¬ t - f < en + 16 + m) (h : Jn w j g f t en cn) (k r : Nat) (hkr : f + en = ((64 * k + r : Nat) : Int)) (hr : r < 64) (hin : k + (r + 8 + 8 + m + 63) / 64 ≤ s.last.length) (hbuf : s.buf.length ≤ 1099511627776) :
    Calls Try.prog 78 #[.pointer (some ⟨j, 0, none⟩), .slice A m c] w (AppPost w j g L q f t en cn s k r m b) := by
  have HJN : Hid (∀ W, Below w.heap.size w W → Jn W j g f t en cn) := Lib.hid fun W hb => (hb.block j (Array.getElem?_eq_some_iff.1 h).1).trans h
  have HDN : Hid (∀ W, Below w.heap.size w W → Dk W g L q s) := Lib.hid fun W hb => hD.below hb
  have HBN : Hid (∀ W, Below w.heap.size w W → Hold W A m c b) := Lib.hid fun W hb' => hb.below hb'
  have hml := hb.1
  have hmost := hD.ok.most
  have HKR := Lib.hid hkr
  have HML := Lib.hid hml
  obtain ⟨j0, j1, j2, j3, j4, jf⟩ := jn_cells h
  have HK : Hid (k < s.last.length) := Lib.hid (by omega)
  have HIN := Lib.hid hin
  have HBUF := Lib.hid hbuf
  have HMO := Lib.hid hmost
  clear h jf hD hb hkr hml hin hbuf hmost
  go_enter Try.func78, Try.ntmps78
  go_wp2_with fail
  refine (spsize_any f t _ hf0 (by omega) ht0 (by omega)).mono ?_
  rintro e w1 ⟨rfl, hb1⟩
  go_wp2_with fail
  obtain ⟨V, hV⟩ : ∃ V, V = w1.drew := ⟨_, rfl⟩
  have hbV : Below w.heap.size w V := by rw [hV]; exact hb1.drew
  have HJV : Hid (∀ W, Below V.heap.size V W → Jn W j g f t en cn) := Lib.hid fun W hb => HJN.out W (hbV.trans (hb.mono hbV.size))
  have HV := Lib.hid hV
  have HBV := Lib.hid hbV
  clear hV hbV hb1
  refine wp_region_stepsA (plF j f t en m) (plJ V (f + en) (f + (en + 16 + m))) (by kernel_rfl) (by kernel_rfl) ⟨by rw [HV.out]; exact Below.refl _ _, fun h => (by cases h)⟩ ?_ ?_
  · refine ⟨?_, ?_, ?_, ?_, ?_, ?_, ?_, ?_, ?_, ?_, ?_, ?_, trivial⟩
    · intro a W ls hJ hi hcl hd hoff hf
      left
      refine ⟨rfl, ?_⟩
      have e0 : a.tmps.getD 0 undef = .pointer (some ⟨j, 0, none⟩) := hoff.slot 0 (no_dst (by kernel_rfl))
      go_simp
      exact ⟨_, rfl, rfl, hJ.pure (i := 0) (d := some 28) (by decide) (by decide) (by decide) _⟩
    · intro a W ls hJ hi hcl hd hoff hf
      left
      refine ⟨rfl, ?_⟩
      have e0 : a.tmps.getD 28 undef = .pointer (some ⟨j, 0, none⟩) := hf 0 _ (hd 0 rfl) rfl
      go_simp
      exact ⟨_, rfl, rfl, hJ.pure (i := 1) (d := some 29) (by decide) (by decide) (by decide) _⟩
    · intro a W ls hJ hi hcl hd hoff hf
      left
      refine ⟨rfl, ?_⟩
      have e0 : a.tmps.getD 29 undef = .pointer (some ⟨j, 0, none⟩) := hf 1 _ (hd 1 rfl) rfl
      go_simp
      exact ⟨_, rfl, rfl, hJ.pure (i := 2) (d := some 30) (by decide) (by decide) (by decide) _⟩
    · intro a W ls hJ hi hcl hd hoff hf
      left
      refine ⟨rfl, ?_⟩
      have e0 : a.tmps.getD 30 undef = .pointer (some ⟨j, 1, none⟩) := hf 2 _ (hd 2 rfl) rfl
      obtain ⟨j0, j1, j2, j3, j4, _⟩ := jn_cells (HJV.out W hJ.1)
      go_simp
      exact ⟨_, rfl, rfl, hJ.pure (i := 3) (d := some 31) (by decide) (by decide) (by decide) _⟩
    · intro a W ls hJ hi hcl hd hoff hf
      left
      refine ⟨rfl, ?_⟩
      have e0 : a.tmps.getD 0 undef = .pointer (some ⟨j, 0, none⟩) := hoff.slot 0 (no_dst (by kernel_rfl))
      go_simp
      exact ⟨_, rfl, rfl, hJ.pure (i := 4) (d := some 32) (by decide) (by decide) (by decide) _⟩
    · intro a W ls hJ hi hcl hd hoff hf
      left
      refine ⟨rfl, ?_⟩
      have e0 : a.tmps.getD 32 undef = .pointer (some ⟨j, 0, none⟩) := hf 4 _ (hd 4 rfl) rfl
      go_simp
      exact ⟨_, rfl, rfl, hJ.pure (i := 5) (d := some 33) (by decide) (by decide) (by decide) _⟩
    · intro a W ls hJ hi hcl hd hoff hf
      left
      refine ⟨rfl, ?_⟩
      have e0 : a.tmps.getD 33 undef = .pointer (some ⟨j, 0, none⟩) := hf 5 _ (hd 5 rfl) rfl
      go_simp
      exact ⟨_, rfl, rfl, hJ.pure (i := 6) (d := some 34) (by decide) (by decide) (by decide) _⟩
    · intro a W ls hJ hi hcl hd hoff hf
      left
      refine ⟨rfl, ?_⟩
      have e0 : a.tmps.getD 34 undef = .pointer (some ⟨j, 3, none⟩) := hf 6 _ (hd 6 rfl) rfl
      obtain ⟨j0, j1, j2, j3, j4, _⟩ := jn_cells (HJV.out W hJ.1)
      go_simp
      exact ⟨_, rfl, rfl, hJ.pure (i := 7) (d := some 35) (by decide) (by decide) (by decide) _⟩
    · intro a W ls hJ hi hcl hd hoff hf
      left
      refine ⟨rfl, ?_⟩
      have e0 : a.tmps.getD 5 undef = .int .i64 (en + 16 + m) := hoff.slot 5 (no_dst (by kernel_rfl))
      go_simp
      exact ⟨_, rfl, rfl, hJ.pure (i := 8) (d := some 36) (by decide) (by decide) (by decide) _⟩
    · intro a W ls hJ hi hcl hd hoff hf
      left
      refine ⟨rfl, ?_⟩
      have e0 : a.tmps.getD 31 undef = .agg #[.int .i64 f, .int .i64 t] := hf 3 _ (hd 3 rfl) rfl
      have e1 : a.tmps.getD 35 undef = .int .i64 en := hf 7 _ (hd 7 rfl) rfl
      have e2 : a.tmps.getD 36 undef = .int .i64 (en + 16 + m) := hf 8 _ (hd 8 rfl) rfl
      go_simp
      refine (sppart_any f t en (en + 16 + m) W hf0 (by omega) hen0 (by omega) (by omega) (by omega)).mono ?_
      rintro e W2 ⟨rfl, hb2⟩
      exact ⟨_, rfl, rfl, hJ.grow (i := 9) (d := some 37) (by decide) (by decide) (by decide) _ hb2⟩
    · intro a W ls hJ hi hcl hd hoff hf
      left
      refine ⟨rfl, ?_⟩
      have h11 : ls 11 = false := hcl.no hi rfl rfl
      have hsz : (6 : Nat) < a.tmps.size := by rw [hoff.size]; exact (by decide : (6 : Nat) < 74)
      go_simp
      exact ⟨_, rfl, trivial, hJ.made h11 hsz⟩
    · intro a W ls hJ hi hcl hd hoff hf
      left
      refine ⟨rfl, ?_⟩
      obtain ⟨k, e0, hk, hkb⟩ := hJ.2 (hd 10 rfl)
      rw [hi] at hkb
      obtain ⟨k0, k1⟩ := two_cells hkb
      have kf : ∀ x, W.frozen? ⟨k, x, none⟩ = false := fun x => by simp [World.frozen?, hkb]
      have kf0 := kf 0
      have kf1 := kf 1
      clear kf
      have e1 : a.tmps.getD 37 undef = .agg #[.int .i64 (f + en), .int .i64 (f + (en + 16 + m))] := hf 9 _ (hd 9 rfl) rfl
      have HJJ := Lib.hid hJ
      have HKB := Lib.hid hkb
      clear hJ hkb
      go_simp
      exact ⟨undef, rfl, trivial, HJJ.out.stored e0 hk HKB.out undef⟩
  · intro a W ls hall hJ hoff hf
    obtain ⟨kb, e6, hk, hkb⟩ := hJ.2 (hall 10 (by decide))
    rw [if_pos (hall 11 (by decide))] at hkb
    have hbW := HBV.out.trans (hJ.1.mono HBV.out.size)
    have HKB := Lib.hid hkb
    have HBW := Lib.hid hbW
    obtain ⟨ys, hys, ha⟩ := off_form hoff (mask := [false, false, false, false, false, false, true, false, false, false, false, false, false, false, false, false, false, false, false, false, false, false, false, false, false, false, false, false, true, true, true, true, true, true, true, true, true, true, false, false, false, false, false, false, false, false, false, false, false, false, false, false, false, false, false, false, false, false, false, false, false, false, false, false, false, false, false, false, false, false, false, false, false, false]) (by kernel_rfl)
    rw [hys] at e6
    rename_i hK
    subst ha
    refine hK _ _ ?_
    clear hf hoff hJ hys hkb hbW hall HJV
    simp only [fillFrom, e6, Nat.zero_add, Nat.reduceAdd]
    go_wp2_with fail
    clear e6 hK
    have HJX : Hid (∀ W', Below W.drew.heap.size W.drew W' → Jn W' j g f t en cn) := Lib.hid fun W' hb => HJN.out W' (HBW.out.drew.trans (hb.mono HBW.out.size))
    have HKX : Hid (∀ W' : World, Below W.drew.heap.size W.drew W' → W'.heap[kb]? = some (.cells #[.int .i64 (f + en), .int .i64 (f + (en + 16 + m))] 74 (0, 0))) := Lib.hid fun W' hb => (hb.block kb (Array.getElem?_eq_some_iff.1 HKB.out).1).trans HKB.out
    have HDX : Hid (∀ W', Below W.drew.heap.size W.drew W' → Dk W' g L q s) := Lib.hid fun W' hb => HDN.out W' (HBW.out.drew.trans (hb.mono HBW.out.size))
    by_cases h0 : s.left = 0
    · have HBD : Hid (∀ W', Below W.drew.heap.size W.drew W' → Calls Try.prog 98 #[.pointer (some ⟨g, 0, none⟩), .int .i64 (f + en)] W' fun e w' => e = .returned (.tuple #[.slice none 0 0, .int .i64 32]) ∧ w' = W') := Lib.hid fun W' hb =>
        before_down W' g L q s (HDX.out W' hb) (f + en) (by omega) (by have := HKR.out; have := HK.out; have := HMO.out; omega) h0 (by have := HBUF.out; omega)
      have fin : ∀ W', Below w.heap.size w W' → AppPost w j g L q f t en cn s k r m b (.returned (.int .i64 32)) W' := fun W' hb => by
        unfold AppPost
        rw [if_pos h0]
        exact ⟨rfl, JAfter.of_after (HDN.out w (Below.refl _ _)) (After.same (HDN.out w (Below.refl _ _)) hb) (HJN.out w (Below.refl _ _))⟩
      have HFIN := Lib.hid fin
      clear fin h0
      refine wp_region_steps (fun i v _ => bdF j g kb (f + en) i v) (fun w w' => Below w.heap.size w w') (by kernel_rfl) (by kernel_rfl) (fun w => Below.refl _ _) (fun _ _ _ h k => h.trans (k.mono h.size)) (fun i v w w' h _ => h) ?_ ?_
      · refine ⟨?_, ?_, ?_, ?_, ?_, ?_, ?_, ?_, ?_, ?_, ?_, ?_, trivial⟩
        · intro a W hR hoff hd
          left
          refine ⟨rfl, ?_⟩
          have e0 : a.tmps.getD 0 undef = .pointer (some ⟨j, 0, none⟩) := hoff.slot 0 (no_dst (by kernel_rfl))
          go_simp
          exact ⟨_, rfl, rfl, Below.refl _ _⟩
        · intro a W hR hoff hd
          left
          refine ⟨rfl, ?_⟩
          have e0 : a.tmps.getD 39 undef = .pointer (some ⟨j, 0, none⟩) := hd 0 _ rfl rfl
          go_simp
          exact ⟨_, rfl, rfl, Below.refl _ _⟩
        · intro a W hR hoff hd
          left
          refine ⟨rfl, ?_⟩
          have e0 : a.tmps.getD 40 undef = .pointer (some ⟨j, 0, none⟩) := hd 1 _ rfl rfl
          go_simp
          exact ⟨_, rfl, rfl, Below.refl _ _⟩
        · intro a W hR hoff hd
          left
          refine ⟨rfl, ?_⟩
          have e0 : a.tmps.getD 41 undef = .pointer (some ⟨j, 0, none⟩) := hd 2 _ rfl rfl
          obtain ⟨j0, j1, j2, j3, j4, _⟩ := jn_cells (HJX.out W hR)
          go_simp
          exact ⟨_, rfl, rfl, Below.refl _ _⟩
        · intro a W hR hoff hd
          left
          refine ⟨rfl, ?_⟩
          have e0 : a.tmps.getD 6 undef = .pointer (some ⟨kb, 0, none⟩) := hoff.slot 6 (no_dst (by kernel_rfl))
          go_simp
          exact ⟨_, rfl, rfl, Below.refl _ _⟩
        · intro a W hR hoff hd
          left
          refine ⟨rfl, ?_⟩
          have e0 : a.tmps.getD 43 undef = .pointer (some ⟨kb, 0, none⟩) := hd 4 _ rfl rfl
          obtain ⟨k0, k1⟩ := two_cells (HKX.out W hR)
          go_simp
          exact ⟨_, rfl, rfl, Below.refl _ _⟩
        · intro a W hR hoff hd
          left
          refine ⟨rfl, ?_⟩
          have e0 : a.tmps.getD 42 undef = .pointer (some ⟨g, 0, none⟩) := hd 3 _ rfl rfl
          have e1 : a.tmps.getD 44 undef = .int .i64 (f + en) := hd 5 _ rfl rfl
          have HBB := Lib.hid (HBD.out W hR)
          go_simp
          refine HBB.out.mono ?_
          rintro e W2 ⟨rfl, rfl⟩
          exact ⟨_, rfl, rfl, Below.refl _ _⟩
        · intro a W hR hoff hd
          left
          refine ⟨rfl, ?_⟩
          have e0 : a.tmps.getD 45 undef = .tuple #[.slice none 0 0, .int .i64 32] := hd 6 _ rfl rfl
          go_simp
          exact ⟨_, rfl, rfl, Below.refl _ _⟩
        · intro a W hR hoff hd
          left
          refine ⟨rfl, ?_⟩
          have e0 : a.tmps.getD 38 undef = .tuple #[.slice none 0 0, .int .i64 32] := hd 7 _ rfl rfl
          go_simp
          exact ⟨_, rfl, rfl, Below.refl _ _⟩
        · intro a W hR hoff hd
          left
          refine ⟨rfl, ?_⟩
          have e0 : a.tmps.getD 38 undef = .tuple #[.slice none 0 0, .int .i64 32] := hd 7 _ rfl rfl
          go_simp
          exact ⟨_, rfl, rfl, Below.refl _ _⟩
        · intro a W hR hoff hd
          left
          refine ⟨rfl, ?_⟩
          have e0 : a.tmps.getD 46 undef = .slice none 0 0 := hd 8 _ rfl rfl
          go_simp
          exact ⟨_, rfl, rfl, Below.refl _ _⟩
        · intro a W hR hoff hd
          left
          refine ⟨rfl, ?_⟩
          have e0 : a.tmps.getD 47 undef = .int .i64 32 := hd 9 _ rfl rfl
          go_simp
          exact ⟨_, rfl, rfl, Below.refl _ _⟩
      · intro a W2 hR hoff hd
        have e8 : a.tmps.getD 8 undef = .int .i64 32 := hd 11 _ rfl
        have hb2 : Below w.heap.size w W2 := HBW.out.drew.trans (hR.mono HBW.out.size)
        have HB2 := Lib.hid hb2
        obtain ⟨ys2, hys, ha⟩ := off_form hoff (mask := [false, false, false, false, false, false, false, true, true, false, false, false, false, false, false, false, false, false, false, false, false, false, false, false, false, false, false, false, false, false, false, false, false, false, false, false, false, false, true, true, true, true, true, true, true, true, true, true, false, false, false, false, false, false, false, false, false, false, false, false, false, false, false, false, false, false, false, false, false, false, false, false, false, false]) (by kernel_rfl)
        rw [hys] at e8
        rename_i hK
        subst ha
        refine hK _ _ ?_
        clear hd hoff hys hb2 hR
        simp only [fillFrom, e8, Nat.zero_add, Nat.reduceAdd]
        clear e8 hK
        go_wp2_with fail
        go_ret
        exact HFIN.out _ HB2.out
    · have HBE : Hid (∀ W', Below W.drew.heap.size W.drew W' → Calls Try.prog 98 #[.pointer (some ⟨g, 0, none⟩), .int .i64 (f + en)] W' (BeforePost s k r W')) := Lib.hid fun W' hb =>
        before_up W' g L q s (HDX.out W' hb) k r (f + en) HKR.out hr HK.out h0 (by have := HBUF.out; omega)
      obtain ⟨ah, hah⟩ : ∃ ah, ah = (s.told k).take r := ⟨_, rfl⟩
      unfold BeforePost at HBE
      rw [← hah] at HBE
      have HAH := Lib.hid hah
      have H0 := Lib.hid h0
      clear hah h0
      refine wp_region_steps (bfF j g kb (f + en) r ah) (fun w w' => Below w.heap.size w w') (by kernel_rfl) (by kernel_rfl) (fun w => Below.refl _ _) (fun _ _ _ h k => h.trans (k.mono h.size)) bfF_mono ?_ ?_
      · refine ⟨?_, ?_, ?_, ?_, ?_, ?_, ?_, ?_, ?_, ?_, ?_, ?_, trivial⟩
        · intro a W hR hoff hd
          left
          refine ⟨rfl, ?_⟩
          have e0 : a.tmps.getD 0 undef = .pointer (some ⟨j, 0, none⟩) := hoff.slot 0 (no_dst (by kernel_rfl))
          go_simp
          exact ⟨_, rfl, rfl, Below.refl _ _⟩
        · intro a W hR hoff hd
          left
          refine ⟨rfl, ?_⟩
          have e0 : a.tmps.getD 39 undef = .pointer (some ⟨j, 0, none⟩) := hd 0 _ rfl rfl
          go_simp
          exact ⟨_, rfl, rfl, Below.refl _ _⟩
        · intro a W hR hoff hd
          left
          refine ⟨rfl, ?_⟩
          have e0 : a.tmps.getD 40 undef = .pointer (some ⟨j, 0, none⟩) := hd 1 _ rfl rfl
          go_simp
          exact ⟨_, rfl, rfl, Below.refl _ _⟩
        · intro a W hR hoff hd
          left
          refine ⟨rfl, ?_⟩
          have e0 : a.tmps.getD 41 undef = .pointer (some ⟨j, 0, none⟩) := hd 2 _ rfl rfl
          obtain ⟨j0, j1, j2, j3, j4, _⟩ := jn_cells (HJX.out W hR)
          go_simp
          exact ⟨_, rfl, rfl, Below.refl _ _⟩
        · intro a W hR hoff hd
          left
          refine ⟨rfl, ?_⟩
          have e0 : a.tmps.getD 6 undef = .pointer (some ⟨kb, 0, none⟩) := hoff.slot 6 (no_dst (by kernel_rfl))
          go_simp
          exact ⟨_, rfl, rfl, Below.refl _ _⟩
        · intro a W hR hoff hd
          left
          refine ⟨rfl, ?_⟩
          have e0 : a.tmps.getD 43 undef = .pointer (some ⟨kb, 0, none⟩) := hd 4 _ rfl rfl
          obtain ⟨k0, k1⟩ := two_cells (HKX.out W hR)
          go_simp
          exact ⟨_, rfl, rfl, Below.refl _ _⟩
        · intro a W hR hoff hd
          left
          refine ⟨rfl, ?_⟩
          have e0 : a.tmps.getD 42 undef = .pointer (some ⟨g, 0, none⟩) := hd 3 _ rfl rfl
          have e1 : a.tmps.getD 44 undef = .int .i64 (f + en) := hd 5 _ rfl rfl
          have HBB := Lib.hid (HBE.out W hR)
          go_simp
          refine HBB.out.mono ?_
          rintro e W2 ⟨A2, c2, rfl, hh, hb2⟩
          exact ⟨_, rfl, ⟨A2, c2, rfl, hh⟩, hb2⟩
        · intro a W hR hoff hd
          left
          refine ⟨rfl, ?_⟩
          obtain ⟨A2, c2, e0, hh⟩ : bfT r ah (a.tmps.getD 45 undef) W := hd 6 _ rfl rfl
          have HH := Lib.hid hh
          clear hh
          go_simp
          exact ⟨_, rfl, ⟨A2, c2, rfl, HH.out⟩, Below.refl _ _⟩
        · intro a W hR hoff hd
          left
          refine ⟨rfl, ?_⟩
          obtain ⟨A2, c2, e0, hh⟩ : bfT r ah (a.tmps.getD 38 undef) W := hd 7 _ rfl rfl
          have HH := Lib.hid hh
          clear hh
          go_simp
          exact ⟨_, rfl, ⟨A2, c2, rfl, HH.out⟩, Below.refl _ _⟩
        · intro a W hR hoff hd
          left
          refine ⟨rfl, ?_⟩
          obtain ⟨A2, c2, e0, hh⟩ : bfT r ah (a.tmps.getD 38 undef) W := hd 7 _ rfl rfl
          have HH := Lib.hid hh
          clear hh
          go_simp
          exact ⟨_, rfl, rfl, Below.refl _ _⟩
        · intro a W hR hoff hd
          left
          refine ⟨rfl, ?_⟩
          obtain ⟨A2, c2, e0, hh⟩ : bfS r ah (a.tmps.getD 46 undef) W := hd 8 _ rfl rfl
          have HH := Lib.hid hh
          clear hh
          go_simp
          exact ⟨_, rfl, ⟨A2, c2, rfl, HH.out⟩, Below.refl _ _⟩
        · intro a W hR hoff hd
          left
          refine ⟨rfl, ?_⟩
          have e0 : a.tmps.getD 47 undef = .int .i64 0 := hd 9 _ rfl rfl
          go_simp
          exact ⟨_, rfl, rfl, Below.refl _ _⟩
      · intro a W2 hR hoff hd
        obtain ⟨A7, c7, e7, hh7⟩ : bfS r ah (a.tmps.getD 7 undef) W2 := hd 10 _ rfl
        have e8 : a.tmps.getD 8 undef = .int .i64 0 := hd 11 _ rfl
        have hb2 : Below w.heap.size w W2 := HBW.out.drew.trans (hR.mono HBW.out.size)
        have HKB2 := Lib.hid (HKX.out W2 hR)
        have HB2 := Lib.hid hb2
        have HH7 := Lib.hid hh7
        obtain ⟨ys2, hys, ha⟩ := off_form hoff (mask := [false, false, false, false, false, false, false, true, true, false, false, false, false, false, false, false, false, false, false, false, false, false, false, false, false, false, false, false, false, false, false, false, false, false, false, false, false, false, true, true, true, true, true, true, true, true, true, true, false, false, false, false, false, false, false, false, false, false, false, false, false, false, false, false, false, false, false, false, false, false, false, false, false, false]) (by kernel_rfl)
        rw [hys] at e7 e8
        rename_i hK
        subst ha
        refine hK _ _ ?_
        clear hd hoff hys hb2 hR hh7
        simp only [fillFrom, e7, e8, Nat.zero_add, Nat.reduceAdd]
        clear e7 e8 hK
        go_wp2_with fail
        obtain ⟨Y, hY⟩ : ∃ Y, Y = W2.drew := ⟨_, rfl⟩
        have hbY : Below w.heap.size w Y := by rw [hY]; exact HB2.out.drew
        have HBY := Lib.hid hbY
        have HJY := Lib.hid (HJN.out Y hbY)
        have HKY : Hid (Y.heap[kb]? = some (.cells #[.int .i64 (f + en), .int .i64 (f + (en + 16 + m))] 74 (0, 0))) := Lib.hid (by rw [hY]; exact HKB2.out)
        have HDY := Lib.hid (HDN.out Y hbY)
        have HFX : Hid (∀ W, Below Y.heap.size Y W → Calls Try.prog 100 #[.slice A7 r c7, .slice A m c] W (FramePost W r m ah b)) := Lib.hid fun W hb =>
          frame_any W A7 A r c7 m c ah b ((HH7.out.below (w' := Y) (by rw [hY]; exact (Below.refl _ _).drew)).below hb) (HBN.out W (hbY.trans (hb.mono hbY.size))) (by omega) hm
        have HWX : Hid (∀ W A8 c8, Below Y.heap.size Y W → W.ownsRow Y.heap.size 5 1 (.slice A8 (r + 8 + 8 + m) c8) (r + 8 + 8 + m) (bv (ah ++ frameOf b)) → Calls Try.prog 99 #[.pointer (some ⟨g, 0, none⟩), .agg #[.int .i64 (f + en), .int .i64 (f + (en + 16 + m))], .slice A8 (r + 8 + 8 + m) c8] W fun e w' => e = .returned (.int .i64 (s.appW k r b).fErr) ∧ After W w' g L q (s.appW k r b).fSt) := Lib.hid fun W A8 c8 hb ho => by
          have hkr := HKR.out
          have hml := HML.out
          have hin := HIN.out
          have hmo := HMO.out
          have hbu := HBUF.out
          have := jwrite_any W g L q s (HDY.out.below hb) k (r + 8 + 8 + m) ((r + 8 + 8 + m + 63) / 64) (f + en) (f + (en + 16 + m)) (by omega) (by omega) (by omega) rfl hin Y.heap.size A8 c8 _ ho (by omega)
          unfold D.appW D.appL
          rw [hml, ← HAH.out]
          exact this
        have HY := Lib.hid hY
        clear hY hbY HKB2 HH7
        obtain ⟨er, her⟩ : ∃ er, er = (s.appW k r b).fErr := ⟨_, rfl⟩
        obtain ⟨s2, hs2⟩ : ∃ s2, s2 = (s.appW k r b).fSt := ⟨_, rfl⟩
        rw [← her, ← hs2] at HWX
        have HER := Lib.hid her
        have HS2 := Lib.hid hs2
        clear her hs2
        refine wp_region_stepsA (frF j g (f + en) (f + (en + 16 + m)) A7 r c7 A m c er) (frJ Y g L q (r + 8 + 8 + m) (ah ++ frameOf b) s2) (by kernel_rfl) (by kernel_rfl) ⟨fun _ => by rw [HY.out]; exact Below.refl _ _, fun h => (by cases h), fun h => (by cases h)⟩ ?_ ?_
        · refine ⟨?_, ?_, ?_, ?_, ?_, ?_, ?_, ?_, ?_, ?_, trivial⟩
          · intro a W ls hJ hi hcl hd hoff hf
            left
            refine ⟨rfl, ?_⟩
            have e0 : a.tmps.getD 0 undef = .pointer (some ⟨j, 0, none⟩) := hoff.slot 0 (no_dst (by kernel_rfl))
            go_simp
            exact ⟨_, rfl, rfl, hJ.pure (i := 0) (d := some 51) (by decide) (by decide) (by decide) _⟩
          · intro a W ls hJ hi hcl hd hoff hf
            left
            refine ⟨rfl, ?_⟩
            have e0 : a.tmps.getD 51 undef = .pointer (some ⟨j, 0, none⟩) := hf 0 _ (hd 0 rfl) rfl
            go_simp
            exact ⟨_, rfl, rfl, hJ.pure (i := 1) (d := some 52) (by decide) (by decide) (by decide) _⟩
          · intro a W ls hJ hi hcl hd hoff hf
            left
            refine ⟨rfl, ?_⟩
            have e0 : a.tmps.getD 52 undef = .pointer (some ⟨j, 0, none⟩) := hf 1 _ (hd 1 rfl) rfl
            go_simp
            exact ⟨_, rfl, rfl, hJ.pure (i := 2) (d := some 53) (by decide) (by decide) (by decide) _⟩
          · intro a W ls hJ hi hcl hd hoff hf
            left
            refine ⟨rfl, ?_⟩
            have e0 : a.tmps.getD 53 undef = .pointer (some ⟨j, 0, none⟩) := hf 2 _ (hd 2 rfl) rfl
            obtain ⟨j0, j1, j2, j3, j4, _⟩ := jn_cells (hJ.keep HDY.out HJY.out (by decide) (by decide) (by decide))
            go_simp
            exact ⟨_, rfl, rfl, hJ.pure (i := 3) (d := some 54) (by decide) (by decide) (by decide) _⟩
          · intro a W ls hJ hi hcl hd hoff hf
            left
            refine ⟨rfl, ?_⟩
            have e0 : a.tmps.getD 6 undef = .pointer (some ⟨kb, 0, none⟩) := hoff.slot 6 (no_dst (by kernel_rfl))
            obtain ⟨k0, k1⟩ := two_cells (hJ.keep HDY.out HKY.out (by decide) (by decide) (by decide))
            go_simp
            exact ⟨_, rfl, rfl, hJ.pure (i := 4) (d := some 55) (by decide) (by decide) (by decide) _⟩
          · intro a W ls hJ hi hcl hd hoff hf
            left
            refine ⟨rfl, ?_⟩
            have e0 : a.tmps.getD 7 undef = .slice A7 r c7 := hoff.slot 7 (no_dst (by kernel_rfl))
            go_simp
            exact ⟨_, rfl, rfl, hJ.pure (i := 5) (d := some 56) (by decide) (by decide) (by decide) _⟩
          · intro a W ls hJ hi hcl hd hoff hf
            left
            refine ⟨rfl, ?_⟩
            have e0 : a.tmps.getD 1 undef = .slice A m c := hoff.slot 1 (no_dst (by kernel_rfl))
            go_simp
            exact ⟨_, rfl, rfl, hJ.pure (i := 6) (d := some 57) (by decide) (by decide) (by decide) _⟩
          · intro a W ls hJ hi hcl hd hoff hf
            left
            refine ⟨rfl, ?_⟩
            have e0 : a.tmps.getD 56 undef = .slice A7 r c7 := hf 5 _ (hd 5 rfl) rfl
            have e1 : a.tmps.getD 57 undef = .slice A m c := hf 6 _ (hd 6 rfl) rfl
            have h8 : ls 8 = false := hcl.no hi rfl rfl
            have HBW := Lib.hid (hJ.1 h8)
            have HFR := Lib.hid (HFX.out W HBW.out)
            go_simp
            refine HFR.out.mono ?_
            rintro e W2 ⟨A8, c8, rfl, ho, hb2⟩
            exact ⟨_, rfl, trivial, frJ.framed h8 HBW.out hb2 (own_mono ho HBW.out.size) (by rw [hoff.size]; exact (by decide : (58 : Nat) < 74))⟩
          · intro a W ls hJ hi hcl hd hoff hf
            left
            refine ⟨rfl, ?_⟩
            have e0 : a.tmps.getD 54 undef = .pointer (some ⟨g, 0, none⟩) := hf 3 _ (hd 3 rfl) rfl
            have e1 : a.tmps.getD 55 undef = .agg #[.int .i64 (f + en), .int .i64 (f + (en + 16 + m))] := hf 4 _ (hd 4 rfl) rfl
            obtain ⟨A8, c8, e2, ho⟩ := hJ.2.2 (hd 7 rfl) hi
            have HWR := Lib.hid (HWX.out W A8 c8 (hJ.1 hi) ho)
            have HBW := Lib.hid (hJ.1 hi)
            clear ho
            go_simp
            refine HWR.out.mono ?_
            rintro e W2 ⟨rfl, ha⟩
            exact ⟨_, rfl, rfl, frJ.wrote HBW.out ha _⟩
          · intro a W ls hJ hi hcl hd hoff hf
            left
            refine ⟨rfl, ?_⟩
            have e0 : a.tmps.getD 59 undef = .int .i64 er := hf 8 _ (hd 8 rfl) rfl
            go_simp
            exact ⟨_, rfl, rfl, hJ.pure (i := 9) (d := some 9) (by decide) (by decide) (by decide) _⟩
        · intro a Z ls hall hJ hoff hf
          have e9 : a.tmps.getD 9 undef = .int .i64 er := hf 9 _ rfl
          have haf := After.trans (Chg.of_below (S := Foot g L q) HBY.out) (fun _ h => .inl h) (hJ.2.1 (hall 8 (by decide)))
          have hja := JAfter.of_after (HDN.out w (Below.refl _ _)) haf (HJN.out w (Below.refl _ _))
          have hjn : Jn Z j g f t en cn := haf.keep (HDN.out w (Below.refl _ _)) (HJN.out w (Below.refl _ _)) (by decide) (by decide) (by decide)
          obtain ⟨z0, z1, z2, z3, z4, zf⟩ := jn_cells hjn
          have zf3 := zf 3
          have zf4 := zf 4
          have HJA := Lib.hid hja
          obtain ⟨ys3, hys, ha⟩ := off_form hoff (mask := [false, false, false, false, false, false, false, false, false, true, false, false, false, false, false, false, false, false, false, false, false, false, false, false, false, false, false, false, false, false, false, false, false, false, false, false, false, false, false, false, false, false, false, false, false, false, false, false, false, false, false, true, true, true, true, true, true, true, true, true, false, false, false, false, false, false, false, false, false, false, false, false, false, false]) (by kernel_rfl)
          rw [hys] at e9
          rename_i hK
          subst ha
          refine hK _ _ ?_
          clear hf hoff hys hall hJ haf hja hjn zf
          simp only [fillFrom, e9, Nat.zero_add, Nat.reduceAdd]
          clear e9 hK
          have hunf : AppPost w j g L q f t en cn s k r m b = fun e w' => e = .returned (.int .i64 er) ∧ JAfter w w' j g L q f t (if er = 0 then en + 16 + m else en) (if er = 0 then cn + 1 else cn) s2 := by
            funext e w'
            unfold AppPost
            rw [if_neg H0.out, ← HER.out, ← HS2.out]
          have HU := Lib.hid hunf
          clear hunf
          by_cases her0 : er = 0
          · subst her0
            go_wp2_with fail
            go_ret
            rw [HU.out]
            refine ⟨rfl, ?_⟩
            rw [if_pos trivial, if_pos trivial]
            exact HJA.out.set _ _
          · go_wp2_with fail
            go_ret
            rw [HU.out]
            refine ⟨rfl, ?_⟩
            rw [if_neg her0, if_neg her0]
            exact HJA.out
end Go.Proofs.Ytbfhlleipeipbaa
