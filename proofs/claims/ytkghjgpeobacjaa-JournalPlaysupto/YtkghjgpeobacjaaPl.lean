/-
  What is proved: plain facts and facts on memory that the walk of the law JournalPlays uses. No condition but those in each statement.
-/
import Derived.Test.YtkghjgpeobacjaaPj
import Derived.Test.YtkghjgpeobacjaaJk
namespace Go.Proofs.Ytkghjgpeobacjaa
open Go.RowKit

structure OpQ where
  kind : Int
  a : Int
  b : Int
  en : Int
  cn : Int
  d : Part
def OpQ.vals (o : OpQ) : List Value := [.int .i64 o.kind, .int .i64 o.a, .int .i64 o.b, .int .i64 o.en, .int .i64 o.cn, o.d.val]
def In64 (x : Int) : Prop := -9223372036854775808 ≤ x ∧ x ≤ 9223372036854775807
structure OpQ.Ok (w : World) (o : OpQ) : Prop where
  hold : Hold w o.d.1 o.d.2.1 o.d.2.2.1 o.d.2.2.2
  size : o.d.2.1 ≤ 1048576
  ia : In64 o.a
  ib : In64 o.b
  ie : In64 o.en
  ic : In64 o.cn
def OpsQ (w : World) (B : Option Addr) (N : Nat) (os : List OpQ) : Prop := os.length = N ∧ (∀ o ∈ os, o.Ok w) ∧ (0 < N → ∃ b off, B = some ⟨b, off, none⟩ ∧ ∀ j (hj : j < os.length), w.rangeAt b (off + j * 6) os[j].vals)
theorem range_laterQ {w w' : World} {b o : Nat} {cs : List Value} (h : w.rangeAt b o cs) (hb : Below w.heap.size w w') : w'.rangeAt b o cs := fun j v hv => cell_later hb (h j v hv)
theorem OpQ.Ok.below {w w' : World} {o : OpQ} (h : o.Ok w) (hb : Below w.heap.size w w') : o.Ok w' := ⟨h.hold.below hb, h.size, h.ia, h.ib, h.ie, h.ic⟩
theorem OpsQ.at {w w' : World} {B : Option Addr} {N : Nat} {os : List OpQ} (h : OpsQ w B N os) (hb : Below w.heap.size w w') {k : Nat} (hk : k < N) : ∃ (b off : Nat) (o : OpQ), B = some ⟨b, off, none⟩ ∧ w'.rangeAt b (off + k * 6) o.vals ∧ o.Ok w' := by
  obtain ⟨b, off, e, hr⟩ := h.2.2 (by omega)
  have hk' : k < os.length := by rw [h.1]; exact hk
  exact ⟨b, off, os[k], e, range_laterQ (hr k hk') hb, (h.2.1 _ (List.getElem_mem hk')).below hb⟩
theorem OpsQ.below {w w' : World} {B : Option Addr} {N : Nat} {os : List OpQ} (h : OpsQ w B N os) (hb : Below w.heap.size w w') : OpsQ w' B N os := by
  refine ⟨h.1, fun o ho => (h.2.1 o ho).below hb, fun hN => ?_⟩
  obtain ⟨b, off, e, hr⟩ := h.2.2 hN
  exact ⟨b, off, e, fun j hj => range_laterQ (hr j hj) hb⟩
theorem Try.size39 : (Try.prog.info? 39).map (·.size) = some 6 := by kernel_rfl
theorem six_cells {w : World} {k : Nat} {x0 x1 x2 x3 x4 x5 : Value} (h : w.heap[k]? = some (.cells #[x0, x1, x2, x3, x4, x5] 39 (0, 0))) : w.cell? ⟨k, 0, none⟩ = some x0 ∧ w.cell? ⟨k, 1, none⟩ = some x1 ∧ w.cell? ⟨k, 2, none⟩ = some x2 ∧ w.cell? ⟨k, 3, none⟩ = some x3 ∧ w.cell? ⟨k, 4, none⟩ = some x4 ∧ w.cell? ⟨k, 5, none⟩ = some x5 := by
  refine ⟨?_, ?_, ?_, ?_, ?_, ?_⟩
  · rw [cell_of_row w k 0 _ 39 (0, 0) h]; rfl
  · rw [cell_of_row w k 1 _ 39 (0, 0) h]; rfl
  · rw [cell_of_row w k 2 _ 39 (0, 0) h]; rfl
  · rw [cell_of_row w k 3 _ 39 (0, 0) h]; rfl
  · rw [cell_of_row w k 4 _ 39 (0, 0) h]; rfl
  · rw [cell_of_row w k 5 _ 39 (0, 0) h]; rfl

/-- how much may wait behind so many steps -/
structure BufOk (d : D) (k : Nat) : Prop where
  most : d.buf.length ≤ k + 65536
  up : d.left ≠ 0 → d.buf.length ≤ k
theorem BufOk.next {d : D} {k : Nat} (h : BufOk d k) : BufOk d (k + 1) := ⟨by have := h.most; omega, fun hl => by have := h.up hl; omega⟩
theorem BufOk.arm {d : D} {k : Nat} (h : BufOk d k) (n : Int) : BufOk (d.aSt n) (k + 1) := by
  unfold D.aSt
  split
  · exact h.next
  · rename_i h0
    have := h.up h0
    exact ⟨by simp only; omega, fun _ => by simp only; omega⟩
theorem BufOk.crash (d : D) (k : Nat) (a b : Int) : BufOk (d.cSt a b) (k + 1) := ⟨Nat.zero_le _, fun _ => Nat.zero_le _⟩
theorem BufOk.write {d : D} {k : Nat} (h : BufOk d k) (i : Int) (l : List UInt8) : BufOk (d.wSt i l) (k + 1) := by
  have hb := wSt_buf d i l
  by_cases h0 : d.left = 0
  · rw [wSt_dead h0]
    exact h.next
  · have := h.up h0
    exact ⟨by omega, fun _ => by omega⟩
theorem BufOk.append {x : JS} {k : Nat} (h : BufOk x.d k) (b : List UInt8) : BufOk (x.app b).d (k + 1) := by
  unfold JS.app
  split
  · exact h.next
  · split
    · exact h.next
    · split
      · exact h.next
      · rename_i h1 h2 h3
        have hu := h.up h3
        have hw : (x.wr b).buf.length ≤ x.d.buf.length + (x.en % 64 + 8 + 8 + b.length + 63) / 64 := wrs_buf _ _ _ _
        have key : BufOk (x.wr b).fSt (k + 1) := by
          unfold D.fSt
          split
          · rename_i h4
            exact ⟨by omega, fun h => absurd h4 h⟩
          · exact ⟨Nat.zero_le _, fun _ => Nat.zero_le _⟩
        split
        · exact key
        · exact key
theorem app_area (x : JS) (b : List UInt8) : (x.app b).fr = x.fr ∧ (x.app b).to = x.to := by
  unfold JS.app
  split
  · exact ⟨rfl, rfl⟩
  · split
    · exact ⟨rfl, rfl⟩
    · split
      · exact ⟨rfl, rfl⟩
      · split <;> exact ⟨rfl, rfl⟩
theorem JS.Ok.disk {x : JS} (h : x.Ok) {d : D} (hd : d.last.length = x.d.last.length) : JS.Ok ⟨d, x.fr, x.to, x.en, x.cn⟩ := ⟨h.ar, by rw [hd]; exact h.dk, h.lo, h.ct⟩
theorem aSt_last (d : D) (n : Int) : (d.aSt n).last = d.last := by unfold D.aSt; split <;> rfl
/-- where Open answers OK -/
theorem open_ok {s : D} {fr to : Nat} {en cn : Int} (h : s.openErr (fr : Int) (to : Int) en cn = 0) : ∃ e c : Nat, en = (e : Int) ∧ cn = (c : Int) ∧ JS.Ok ⟨s, fr, to, e, c⟩ ∧ (s.openFs (fr : Int) en).length = c := by
  unfold D.openErr at h
  split at h
  · cases h
  · rename_i h1
    split at h
    · cases h
    · rename_i h2
      split at h
      · cases h
      · split at h
        · rename_i h3 h4
          unfold D.badArea at h1
          obtain ⟨q1, q2⟩ := h4
          cases hs : splitOf (s.area ((fr : Int)).toNat en.toNat) with
          | none => rw [hs] at q1; cases q1
          | some fs =>
            rw [hs] at q2
            have hc := splitOf_count hs
            have hl : (s.area ((fr : Int)).toNat en.toNat).length ≤ en.toNat := by unfold D.area; simp only [List.length_take]; omega
            simp only [Option.getD_some] at q2
            refine ⟨en.toNat, fs.length, by omega, q2.symm, ⟨by simp only; omega, by simp only; omega, by simp only; omega, by simp only; omega⟩, ?_⟩
            unfold D.openFs
            rw [hs]
            rfl
        · cases h
theorem open_area {s : D} {fr to en cn : Int} (h : s.openErr fr to en cn = 0) : ∃ f t : Nat, fr = (f : Int) ∧ to = (t : Int) := by
  unfold D.openErr at h
  split at h
  · cases h
  · rename_i h1
    unfold D.badArea at h1
    exact ⟨fr.toNat, to.toNat, by omega, by omega⟩
/-- what the program's Open answers -/
def PoP (w : World) (g : Nat) (d : D) (fr to en cn : Int) (e : Ending) (w' : World) : Prop :=
  Below w.heap.size w w' ∧ (d.openErr fr to en cn ≠ 0 → e = .returned (.tuple #[.pointer none, .slice none 0 0, .int .i64 (d.openErr fr to en cn)])) ∧
  (d.openErr fr to en cn = 0 → ∃ j B C ps, e = .returned (.tuple #[.pointer (some ⟨j, 0, none⟩), .slice B (d.openFs fr en).length C, .int .i64 0]) ∧ w.heap.size ≤ j ∧ Jn w' j g (fr * 64) (to * 64) en cn ∧ Rows0 w' B (d.openFs fr en).length ps ∧ ps.map (·.2.2.2) = d.openFs fr en)
def PoR (w : World) (m : Nat) (d : D) (fr to en cn : Int) (e : Ending) (w' : World) : Prop :=
  Below w.heap.size w w' ∧ (d.openErr fr to en cn ≠ 0 → e = .returned (.tuple #[.pointer none, .slice none 0 0, .int .i64 (d.openErr fr to en cn)])) ∧
  (d.openErr fr to en cn = 0 → ∃ n B C ps, e = .returned (.tuple #[.pointer (some ⟨n, 0, none⟩), .slice B (d.openFs fr en).length C, .int .i64 0]) ∧ w.heap.size ≤ n ∧ RJn w' n m fr to en cn ∧ Rows0 w' B (d.openFs fr en).length ps ∧ ps.map (·.2.2.2) = d.openFs fr en)
section
variable {w0 w : World} {g m : Nat} {x : JS} {u : Nat}
theorem po_p (h : Mine w0 w g x.d) (fr to en cn : Int) (h1 : In64 fr) (hb : x.d.buf.length ≤ 1048576) : Calls Try.prog 10 #[.pointer (some ⟨g, 0, none⟩), .int .i64 fr, .int .i64 to, .int .i64 en, .int .i64 cn] w (PoP w g x.d fr to en cn) := by
  refine (open_mine h fr to en cn h1.1 h1.2 (by omega)).mono fun e w' hp => ?_
  by_cases h0 : x.d.openErr fr to en cn = 0
  · obtain ⟨j, B, C, rfl, hj, hJ, hF, hbw⟩ := hp.1 h0
    obtain ⟨ps, q1, q2⟩ := hF.rows rfl
    exact ⟨hbw, fun h => absurd h0 h, fun _ => ⟨j, B, C, ps, rfl, hj, hJ, q1, q2⟩⟩
  · obtain ⟨rfl, hbw⟩ := hp.2 h0
    exact ⟨hbw, fun _ => rfl, fun h => absurd h h0⟩
theorem po_r (h : RMine w0 w m x.d u) (fr to en cn : Int) (hb : x.d.buf.length ≤ 1048576) : Calls Try.prog 11 #[.pointer (some ⟨m, 0, none⟩), .int .i64 fr, .int .i64 to, .int .i64 en, .int .i64 cn] w (PoR w m x.d fr to en cn) := by
  obtain ⟨mp, q, bs, hk, hf, hlen⟩ := h.len
  refine (ropen_any hk fr to en cn (by omega)).mono fun e w' hp => ?_
  by_cases h0 : x.d.openErr fr to en cn = 0
  · obtain ⟨j, B, C, rfl, hj, hJ, hF, hbw⟩ := hp.1 h0
    obtain ⟨ps, q1, q2⟩ := hF.rows rfl
    exact ⟨hbw, fun h => absurd h0 h, fun _ => ⟨j, B, C, ps, rfl, hj, hJ, q1, q2⟩⟩
  · obtain ⟨rfl, hbw⟩ := hp.2 h0
    exact ⟨hbw, fun _ => rfl, fun h => absurd h h0⟩
end
/-- the line that appends to both -/
def p1F (j n ko : Nat) (A : Option Addr) (k c : Nat) (er : Int) : Nat → Value → Prop
  | 0, v => v = .pointer (some ⟨j, 0, none⟩)
  | 4, v => v = .pointer (some ⟨n, 0, none⟩)
  | 1, v | 5, v => v = .pointer (some ⟨ko, 5, none⟩)
  | 2, v | 6, v => v = .slice A k c
  | 3, v | 7, v => v = .int .i64 er
  | _, v => v = .bool false
def p1J (w0 : World) (j g n m : Nat) (x x' : JS) (u ko : Nat) (C : Array Value) (ls : Nat → Bool) (_ : Act) (w : World) : Prop :=
  PJ w0 w j g n m (if ls 3 = true then x' else x) (if ls 7 = true then x' else x) (if ls 7 = true then u + 1048577 else u) ∧ w.heap[ko]? = some (.cells C 39 (0, 0))
section
variable {w0 w w' : World} {j g n m ko u : Nat} {x x' : JS} {C : Array Value} {ls : Nat → Bool} {a : Act}
theorem p1J.pure (h : p1J w0 j g n m x x' u ko C ls a w) {i : Nat} (hi : i ≠ 3 ∧ i ≠ 7) (a' : Act) : p1J w0 j g n m x x' u ko C (updB ls i) a' w := by
  unfold p1J at *
  rw [updB_other ls (Ne.symm hi.1), updB_other ls (Ne.symm hi.2)]
  exact h
theorem p1J.three (h : p1J w0 j g n m x x' u ko C ls a w) (h3 : ls 3 = false) : PJ w0 w j g n m x (if ls 7 = true then x' else x) (if ls 7 = true then u + 1048577 else u) := by
  simpa [h3] using h.1
theorem p1J.seven (h : p1J w0 j g n m x x' u ko C ls a w) (h7 : ls 7 = false) : PJ w0 w j g n m (if ls 3 = true then x' else x) x u := by
  simpa [h7] using h.1
theorem p1J.set3 (h : p1J w0 j g n m x x' u ko C ls a w) (h2 : PJ w0 w' j g n m x' (if ls 7 = true then x' else x) (if ls 7 = true then u + 1048577 else u)) (ho : Kept39 w w') (a' : Act) : p1J w0 j g n m x x' u ko C (updB ls 3) a' w' := by
  refine ⟨?_, ho _ _ _ h.2⟩
  rw [updB_at, if_pos rfl, updB_other ls (by decide)]
  exact h2
theorem p1J.set7 (h : p1J w0 j g n m x x' u ko C ls a w) (h2 : PJ w0 w' j g n m (if ls 3 = true then x' else x) x' (u + 1048577)) (ho : Kept39 w w') (a' : Act) : p1J w0 j g n m x x' u ko C (updB ls 7) a' w' := by
  refine ⟨?_, ho _ _ _ h.2⟩
  rw [updB_at, if_pos rfl, if_pos rfl, updB_other ls (by decide)]
  exact h2
end
/-- the line that compares -/
def cmF (j g n m : Nat) (en cn : Int) (dn : Bool) (A : Option Addr) (bl c : Nat) : Nat → Value → Prop
  | 0, v | 8, v => v = .pointer (some ⟨j, 0, none⟩)
  | 1, v | 5, v => v = .int .i64 en
  | 2, v | 3, v | 10, v | 11, v => v = .pointer (some ⟨n, 0, none⟩)
  | 4, v => v = .pointer (some ⟨n, 3, none⟩)
  | 9, v | 13, v => v = .int .i64 cn
  | 12, v => v = .pointer (some ⟨n, 4, none⟩)
  | 17, v | 26, v => v = .pointer (some ⟨g, 0, none⟩)
  | 18, v | 22, v => v = .bool dn
  | 19, v | 20, v | 28, v | 29, v => v = .pointer (some ⟨m, 0, none⟩)
  | 21, v => v = .pointer (some ⟨m, 4, none⟩)
  | 30, v => v = .pointer (some ⟨m, 2, none⟩)
  | 27, v | 32, v => v = .int .i64 (bl : Int)
  | 31, v => v = .slice A bl c
  | _, v => v = .bool false
theorem cm_cells {w0 w : World} {j g n m : Nat} {x y : JS} {u : Nat} (h : PJ w0 w j g n m x y u) : ∃ A c, ∀ W, Below w.drew.heap.size w.drew W → W.cell? ⟨m, 2, none⟩ = some (.slice A y.d.buf.length c) ∧ W.cell? ⟨m, 4, none⟩ = some (.bool (decide (y.d.left = 0))) := by
  obtain ⟨mp, q, bs, hk, _, hlen⟩ := h.r.len
  obtain ⟨A, c, k, Dm, hm, _⟩ := hk.form
  refine ⟨A, c, fun W hbW => ?_⟩
  obtain ⟨_, _, x2, _, x4, _⟩ := five_cells ((hbW.block m (hk.lt m rfoot_m)).trans hm)
  rw [hlen] at x2
  exact ⟨x2, x4⟩
/-- what the law's loop has -/
def PlR (w : World) (g m fr to N : Nat) (v7 v10 i : Value) (wr : World) : Prop :=
  ∃ (k j n : Nat) (x : JS) (u : Nat), k ≤ N ∧ i = .int .i64 (k : Int) ∧ v7 = .pointer (some ⟨j, 0, none⟩) ∧ v10 = .pointer (some ⟨n, 0, none⟩) ∧ PJ w wr j g n m x x u ∧ x.Ok ∧ x.fr = fr ∧ x.to = to ∧ BufOk x.d k ∧ u ≤ k * 2097154
end Go.Proofs.Ytkghjgpeobacjaa
