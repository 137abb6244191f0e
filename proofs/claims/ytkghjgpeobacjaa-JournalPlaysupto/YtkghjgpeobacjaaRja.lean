/-
  What is proved: what the document's Append answers and leaves. Conditions: the document's journal and its disk lie in memory as they must, its area lies on the disk, numbers are small.
-/
import Derived.Test.YtkghjgpeobacjaaRjo
import Derived.Test.YtkghjgpeobacjaaJq
import Derived.BigQuiet
namespace Go.Proofs.Ytkghjgpeobacjaa
open Go.RowKit

theorem Rk.keep44 {w w' : World} {m mp : Nat} {q : Option Nat} {bs : List RB} {s : D} {u : Nat} (h : Rk w m mp q bs s u) (hc : Chg (RFoot m mp q) w w') {b : Nat} {C : Array Value} {t : TypeId} {fr : Nat × Nat} (hb : w.heap[b]? = some (.cells C t fr)) (h1 : t ≠ 53) (h2 : t ≠ 90) : w'.heap[b]? = some (.cells C t fr) := by
  rw [hc.block b (Array.getElem?_eq_some_iff.1 hb).1 (h.other hb h1 h2)]
  exact hb
theorem below_drewN (w : World) (q : Nat) : Below w.heap.size w (w.drewN q) := ⟨rfl, rfl, rfl, Nat.le_refl _, fun _ _ => rfl⟩
/-- what the document's Append leaves -/
def RJAfter (w w' : World) (n m mp : Nat) (q : Option Nat) (fr to en cn : Int) (s : D) (u : Nat) : Prop :=
  ∃ q' bs', Rk w' m mp q' bs' s u ∧ (∀ k, q' = some k → q = some k ∨ w.heap.size ≤ k) ∧ Chg (fun b => RFoot m mp q b ∨ b = n) w w' ∧ RJn w' n m fr to en cn
theorem RJAfter.below {w w' : World} {n m mp : Nat} {q : Option Nat} {bs : List RB} {fr to en cn : Int} {s : D} {u u' : Nat} (h : Rk w m mp q bs s u) (hj : RJn w n m fr to en cn) (hb : Below w.heap.size w w') (hu : u ≤ u') : RJAfter w w' n m mp q fr to en cn s u' := by
  have h' := h.below hb
  obtain ⟨ok, ⟨v, k, Dm, a1, a2, a3, a4⟩, b1, b2⟩ := h'
  exact ⟨q, bs, ⟨ok, ⟨v, k, Dm, a1, a2, by omega, a4⟩, b1, b2⟩, fun _ h => .inl h, Chg.of_below hb, (hb.block n (Array.getElem?_eq_some_iff.1 hj).1).trans hj⟩
/-- what the loop of the document's Append has -/
structure RL (w : World) (n m mp : Nat) (q : Option Nat) (fr to en cn : Int) (sk : D) (u : Nat) (b5 M c5 : Nat) (all : List UInt8) (wr : World) : Prop where
  ex : ∃ q' bs', Rk wr m mp q' bs' sk u ∧ (∀ k, q' = some k → q = some k ∨ w.heap.size ≤ k) ∧ Chg (RFoot m mp q) w wr
  jn : RJn wr n m fr to en cn
  row : wr.ownsRow w.heap.size 5 1 (.slice (some ⟨b5, 0, none⟩) M c5) M (bv all)
theorem RL.call {w wr W : World} {n m mp : Nat} {q : Option Nat} {fr to en cn : Int} {sk s' : D} {u u' : Nat} {b5 M c5 : Nat} {all : List UInt8} {q' : Option Nat} {bs' : List RB} (h : RL w n m mp q fr to en cn sk u b5 M c5 all wr) (hk : Rk wr m mp q' bs' sk u) (hq : ∀ k, q' = some k → q = some k ∨ w.heap.size ≤ k) (hc : Chg (RFoot m mp q) w wr) (ha : RAfter wr W m mp q' s' u') : RL w n m mp q fr to en cn s' u' b5 M c5 all W := by
  obtain ⟨q2, bs2, hk2, hc2, hq2⟩ := ha
  refine ⟨⟨q2, bs2, hk2, fun k e => ?_, hc.trans hc2 (rfoot_back hq)⟩, hk.keep44 hc2 h.jn (by decide) (by decide), ?_⟩
  · rcases hq2 k e with e | e
    · exact hq k e
    · exact .inr (Nat.le_trans hc.size e)
  · exact own_cells h.row fun b C t fr' ht hb => by
      subst ht
      rw [hc2.block b (Array.getElem?_eq_some_iff.1 hb).1 (hk.other hb (by decide) (by decide))]
      exact hb
theorem Rk.more {w : World} {m mp : Nat} {q : Option Nat} {bs : List RB} {s : D} {u u' : Nat} (h : Rk w m mp q bs s u) (hu : u ≤ u') : Rk w m mp q bs s u' := by
  obtain ⟨ok, ⟨v, k, Dm, a1, a2, a3, a4⟩, b1, b2⟩ := h
  exact ⟨ok, ⟨v, k, Dm, a1, a2, by omega, a4⟩, b1, b2⟩
theorem RL.fin {w wr : World} {n m mp : Nat} {q : Option Nat} {fr to en cn : Int} {sk : D} {u : Nat} {b5 M c5 : Nat} {all : List UInt8} (h : RL w n m mp q fr to en cn sk u b5 M c5 all wr) : RJAfter w wr n m mp q fr to en cn sk u := by
  obtain ⟨q', bs', h1, h2, h3⟩ := h.ex
  exact ⟨q', bs', h1, h2, h3.mono (fun _ h => .inl h), h.jn⟩
theorem RJAfter.set {w w' : World} {n m mp : Nat} {q : Option Nat} {fr to en cn : Int} {s : D} {u : Nat} (h : RJAfter w w' n m mp q fr to en cn s u) (en' cn' : Int) : RJAfter w ((w'.setCell ⟨n, 3, none⟩ (.int .i64 en')).setCell ⟨n, 4, none⟩ (.int .i64 cn')) n m mp q fr to en' cn' s u := by
  obtain ⟨q', bs', h1, h2, h3, h4⟩ := h
  have e1 := heap_setCell_at (heap_setCell_at h4 3 (.int .i64 en')) 4 (.int .i64 cn')
  have hne : ∀ x, RFoot m mp q' x → x ≠ n := fun x hx e => h1.other (b := n) h4 (by decide) (by decide) (e ▸ hx)
  refine ⟨q', bs', h1.frame (fun x hx => ?_) (fun x hx => ?_), h2, (h3.setCell (p := ⟨n, 3, none⟩) (.inl (.inr rfl)) _).setCell (p := ⟨n, 4, none⟩) (.inl (.inr rfl)) _, by unfold RJn; simpa using e1⟩
  · rw [Below.heap_setCell _ _ _ _ (hne x hx), Below.heap_setCell _ _ _ _ (hne x hx)]
  · have : x.2.1 ≠ n := tag_ne (h1.data x hx) h4 (by decide)
    rw [Below.heap_setCell _ _ _ _ this, Below.heap_setCell _ _ _ _ this]
/-- what is written: the bytes of the area's last sector, and the frame -/
theorem all_part {s : D} (h : s.Ok) {fr en : Nat} {b : List UInt8} (hin : fr + (en + 63) / 64 ≤ s.last.length) (hk : fr + en / 64 < s.last.length) (k : Nat) : ((s.area fr en ++ frameOf b).drop (64 * (en / 64 + k))).take 64 = ((s.appL (fr + en / 64) (en % 64) b).drop (64 * k)).take 64 := by
  have hfl := h.flat_len
  have hal : (s.area fr en).length = en := by rw [h.area_flat hin, List.length_take, List.length_drop]; omega
  have e : (s.area fr en ++ frameOf b).drop (64 * (en / 64)) = s.appL (fr + en / 64) (en % 64) b := by
    unfold D.appL
    rw [List.drop_append_of_le_length (by omega), h.area_flat hin, h.told_flat hk, List.drop_take, List.drop_drop, List.take_take]
    congr 3
    · omega
    · omega
  rw [Nat.mul_add, ← List.drop_drop, e]
theorem wErr_in {s : D} {i k : Nat} (hi : i < s.last.length) (hk : k ≤ 64) : s.wErr (i : Int) k = if s.left = 0 then 32 else 0 := by
  unfold D.wErr
  rw [refuse_in hi]
  split <;> rename_i h0
  · rfl
  · simp only [ne_eq, not_true_eq_false, if_false]
    rw [if_neg (by omega)]
def waJ (V : World) (Post : World → Prop) (ls : Nat → Bool) (_ : Act) (w : World) : Prop := (ls 15 = false → w = V) ∧ (ls 15 = true → Post w)
theorem waJ.pure {V w : World} {Post : World → Prop} {ls : Nat → Bool} {a : Act} (h : waJ V Post ls a w) {i : Nat} (hi : i ≠ 15) (a' : Act) : waJ V Post (updB ls i) a' w := by
  unfold waJ at *
  rw [updB_other ls (Ne.symm hi)]
  exact h
theorem waJ.done {V w : World} {Post : World → Prop} {ls : Nat → Bool} (h : Post w) (a' : Act) : waJ V Post (updB ls 15) a' w := by
  unfold waJ
  rw [updB_at]
  exact ⟨(fun h => by cases h), fun _ => h⟩
def waF (n m : Nat) (fr at_ T : Int) (e : Nat) (b5 M c5 : Nat) (nk : Nat) (er : Int) : Nat → Value → Prop
  | 0, v | 1, v | 4, v | 5, v => v = .pointer (some ⟨n, 0, none⟩)
  | 2, v => v = .pointer (some ⟨n, 0, none⟩)
  | 3, v => v = .pointer (some ⟨m, 0, none⟩)
  | 6, v => v = .pointer (some ⟨n, 1, none⟩)
  | 7, v => v = .int .i64 fr
  | 8, v | 12, v => v = .int .i64 at_
  | 9, v => v = .int .i64 (e : Int)
  | 10, v => v = .int .i64 (fr + (e : Int))
  | 11, v => v = .slice (some ⟨b5, 0, none⟩) M c5
  | 13, v => v = .int .i64 T
  | 14, v => v = .slice (some ⟨b5, 64 * e, none⟩) nk (c5 - 64 * e)
  | _, v => v = .int .i64 er
def byF (n m : Nat) (fr en : Int) (base M : Nat) (l : List UInt8) : Nat → Value → World → Prop
  | 0, v, _ | 1, v, _ | 4, v, _ | 5, v, _ | 8, v, _ | 9, v, _ => v = .pointer (some ⟨n, 0, none⟩)
  | 2, v, _ => v = .pointer (some ⟨n, 0, none⟩)
  | 3, v, _ => v = .pointer (some ⟨m, 0, none⟩)
  | 6, v, _ => v = .pointer (some ⟨n, 1, none⟩)
  | 7, v, _ => v = .int .i64 fr
  | 10, v, _ => v = .pointer (some ⟨n, 3, none⟩)
  | 11, v, _ => v = .int .i64 en
  | _, v, w => ∃ A c, v = .slice A M c ∧ w.ownsRow base 5 1 (.slice A M c) M (bv l)
theorem byF_mono {n m : Nat} {fr en : Int} {base M : Nat} {l : List UInt8} (i : Nat) (v : Value) (w w' : World) (h : byF n m fr en base M l i v w) (hb : Below w.heap.size w w') : byF n m fr en base M l i v w' := by
  unfold byF at *
  split at h
  all_goals first
    | exact h
    | (obtain ⟨A2, c2, e, h1⟩ := h; exact ⟨A2, c2, e, own_belowG h1 hb⟩)
theorem Hold.part {w : World} {b5 M c5 base : Nat} {all : List UInt8} (h : w.ownsRow base 5 1 (.slice (some ⟨b5, 0, none⟩) M c5) M (bv all)) (a nk : Nat) (ha : a + nk ≤ M) (hne : a < M) : Hold w (some ⟨b5, a, none⟩) nk (c5 - a) ((all.drop a).take nk) := by
  have h0 := Hold.of_own h
  have hc := h0.2.1
  have h1 := h0.drop (k := a) (A' := some ⟨b5, a, none⟩) (by omega) (fun _ => by simp [Addr.add_lit]) (fun e => by omega)
  exact h1.take (by omega)

set_option maxRecDepth 100000 in
set_option maxHeartbeats 400000 in
theorem rappend_long (w : World) (n : Nat) (A : Option Addr) (k c : Nat) (hk : 1048576 < k) (hk2 : k ≤ 140737488355328) :
    Calls Try.prog 14 #[.pointer (some ⟨n, 0, none⟩), .slice A k c] w fun e w' => e = .returned (.int .i64 3) ∧ w' = w := by
  go_enter Try.func14, Try.ntmps14
  go_wp2
  go_ret
  exact ⟨rfl, rfl⟩
set_option maxRecDepth 100000 in
set_option maxHeartbeats 400000 in
theorem rappend_full (w : World) (n m : Nat) (fr to en cn : Int) (h : RJn w n m fr to en cn) (A : Option Addr) (k c : Nat) (hk : k ≤ 1048576) (h0 : 0 ≤ fr) (h1 : fr ≤ to) (h2 : to ≤ 65536) (h3 : 0 ≤ en) (h4 : en ≤ 4194304) (hf : (to - fr) * 64 - en < (k : Int) + 16) :
    Calls Try.prog 14 #[.pointer (some ⟨n, 0, none⟩), .slice A k c] w fun e w' => e = .returned (.int .i64 51) ∧ Below w.heap.size w w' := by
  obtain ⟨c0, c1, c2, c3, c4, _⟩ := rjn_cells h
  clear h
  go_enter Try.func14, Try.ntmps14
  go_wp2_with fail
  go_quiet (fail)
  go_wp2_with fail
  go_ret
  exact ⟨rfl, below_drewN _ _⟩
set_option maxRecDepth 100000 in
set_option maxHeartbeats 400000 in
theorem rappend_down (w : World) (n m mp : Nat) (q : Option Nat) (bs : List RB) (s : D) (u : Nat) (hR : Rk w m mp q bs s u) (fr to en cn : Int) (h : RJn w n m fr to en cn) (A : Option Addr) (k c : Nat) (hk : k ≤ 1048576) (h0 : 0 ≤ fr) (h1 : fr ≤ to) (h2 : to ≤ 65536) (h3 : 0 ≤ en) (h4 : en ≤ 4194304) (hf : ¬ (to - fr) * 64 - en < (k : Int) + 16) (hd : s.left = 0) :
    Calls Try.prog 14 #[.pointer (some ⟨n, 0, none⟩), .slice A k c] w fun e w' => e = .returned (.int .i64 32) ∧ Below w.heap.size w w' := by
  obtain ⟨c0, c1, c2, c3, c4, _⟩ := rjn_cells h
  obtain ⟨_, d4⟩ := hR.cells04
  have hdd : decide (s.left = 0) = true := by simp [hd]
  rw [hdd] at d4
  clear h hR hdd
  go_enter Try.func14, Try.ntmps14
  go_wp2_with fail
  go_quiet (fail)
  go_wp2_with fail
  go_ret
  exact ⟨rfl, below_drewN _ _⟩

def RAppUp (w : World) (n m mp : Nat) (q : Option Nat) (fr to en cn M : Nat) (a : D) (u : Nat) (e : Ending) (w' : World) : Prop :=
  e = .returned (.int .i64 a.fErr) ∧ RJAfter w w' n m mp q (fr : Int) (to : Int) (if a.fErr = 0 then (M : Int) else (en : Int)) (if a.fErr = 0 then (cn : Int) + 1 else (cn : Int)) a.fSt u

set_option maxRecDepth 100000 in
set_option maxHeartbeats 2000000 in
theorem rappend_up (w : World) (n m mp : Nat) (q : Option Nat) (bs : List RB) (s : D) (u : Nat) (hR : Rk w m mp q bs s u) (fr to en cn : Nat) (h : RJn w n m (fr : Int) (to : Int) (en : Int) (cn : Int)) (A : Option Addr) (k c : Nat) (b : List UInt8) (hb : Hold w A k c b) (hk : k ≤ 1048576) (h1 : fr ≤ to) (h2 : to ≤ s.last.length) (h4 : en + 16 + k ≤ 64 * (to - fr)) (hcn : cn ≤ 1099511627776) (hd : s.left ≠ 0) (hbs : s.buf.length + 65536 ≤ 1048576) (hu : u ≤ 4611686018427387904) :
    Calls Try.prog 14 #[.pointer (some ⟨n, 0, none⟩), .slice A k c] w (RAppUp w n m mp q fr to en cn (en + 16 + k) (s.appW (fr + en / 64) (en % 64) b) (u + 1048576)) := by
  have hmost := hR.ok.most
  have hlen : s.buf.length = bs.length := by rw [hR.buf]; simp [rbuf]
  obtain ⟨_, d4⟩ := hR.cells04
  have hdd : decide (s.left = 0) = false := by simp [hd]
  rw [hdd] at d4
  obtain ⟨c0, c1, c2, c3, c4, _⟩ := rjn_cells h
  have HR := Lib.hid hR
  have HJ := Lib.hid h
  have HB := Lib.hid hb
  have hbl := Lib.hid hb.1
  have hfit : ¬ ((to : Int) - (fr : Int)) * 64 - (en : Int) < (k : Int) + 16 := by omega
  have hi1 : (0 : Int) ≤ (fr : Int) := by omega
  have hi2 : (fr : Int) ≤ (to : Int) := by omega
  have hi3 : (to : Int) ≤ 65536 := by omega
  have hi4 : (0 : Int) ≤ (en : Int) := by omega
  have hi5 : (en : Int) ≤ 4194304 := by omega
  clear h hR hb hdd
  go_enter Try.func14, Try.ntmps14
  go_wp2_with fail
  go_quiet (fail)
  go_wp2_with fail
  have HBQ := Lib.hid (below_drewN w nq)
  obtain ⟨w1, hw1⟩ : ∃ w1, w1 = w.drewN nq := ⟨_, rfl⟩
  rw [← hw1] at HBQ ⊢
  clear hw1 c0 c1 c2 c3 c4 d4
  have HRX : Hid (∀ W, Below w1.drew.heap.size w1.drew W → Rk W m mp q bs s u) := Lib.hid fun W hbW => HR.out.below (HBQ.out.drew.trans (hbW.mono HBQ.out.size))
  have HJX : Hid (∀ W, Below w1.drew.heap.size w1.drew W → RJn W n m (fr : Int) (to : Int) (en : Int) (cn : Int)) := Lib.hid fun W hbW => ((HBQ.out.drew.trans (hbW.mono HBQ.out.size)).block n (Array.getElem?_eq_some_iff.1 HJ.out).1).trans HJ.out
  have hwsz : w.heap.size ≤ w1.heap.size := HBQ.out.size
  refine wp_region_steps (byF n m (fr : Int) (en : Int) w.heap.size en (s.area fr en)) (fun w w' => Below w.heap.size w w') (by kernel_rfl) (by kernel_rfl) (fun w => Below.refl _ _) (fun _ _ _ h k => h.trans (k.mono h.size)) (fun i v w w' h hb => byF_mono i v w w' h hb) ?_ ?_
  · refine ⟨?_, ?_, ?_, ?_, ?_, ?_, ?_, ?_, ?_, ?_, ?_, ?_, ?_, ?_, trivial⟩
    · intro a W hR hoff hd
      left
      refine ⟨rfl, ?_⟩
      have e0 : a.tmps.getD 0 undef = .pointer (some ⟨n, 0, none⟩) := hoff.slot 0 (no_dst (by kernel_rfl))
      go_simp
      exact ⟨_, rfl, rfl, Below.refl _ _⟩
    · intro a W hR hoff hd
      left
      refine ⟨rfl, ?_⟩
      have e0 : a.tmps.getD 39 undef = .pointer (some ⟨n, 0, none⟩) := hd 0 _ rfl rfl
      go_simp
      exact ⟨_, rfl, rfl, Below.refl _ _⟩
    · intro a W hR hoff hd
      left
      refine ⟨rfl, ?_⟩
      have e0 : a.tmps.getD 40 undef = .pointer (some ⟨n, 0, none⟩) := hd 1 _ rfl rfl
      go_simp
      exact ⟨_, rfl, rfl, Below.refl _ _⟩
    · intro a W hR hoff hd
      left
      refine ⟨rfl, ?_⟩
      have e0 : a.tmps.getD 41 undef = .pointer (some ⟨n, 0, none⟩) := hd 2 _ rfl rfl
      obtain ⟨x0, x1, x2, x3, x4, _⟩ := rjn_cells (HJX.out W hR)
      go_simp
      exact ⟨_, rfl, rfl, Below.refl _ _⟩
    · intro a W hR hoff hd
      left
      refine ⟨rfl, ?_⟩
      have e0 : a.tmps.getD 0 undef = .pointer (some ⟨n, 0, none⟩) := hoff.slot 0 (no_dst (by kernel_rfl))
      go_simp
      exact ⟨_, rfl, rfl, Below.refl _ _⟩
    · intro a W hR hoff hd
      left
      refine ⟨rfl, ?_⟩
      have e0 : a.tmps.getD 43 undef = .pointer (some ⟨n, 0, none⟩) := hd 4 _ rfl rfl
      go_simp
      exact ⟨_, rfl, rfl, Below.refl _ _⟩
    · intro a W hR hoff hd
      left
      refine ⟨rfl, ?_⟩
      have e0 : a.tmps.getD 44 undef = .pointer (some ⟨n, 0, none⟩) := hd 5 _ rfl rfl
      go_simp
      exact ⟨_, rfl, rfl, Below.refl _ _⟩
    · intro a W hR hoff hd
      left
      refine ⟨rfl, ?_⟩
      have e0 : a.tmps.getD 45 undef = .pointer (some ⟨n, 1, none⟩) := hd 6 _ rfl rfl
      obtain ⟨x0, x1, x2, x3, x4, _⟩ := rjn_cells (HJX.out W hR)
      go_simp
      exact ⟨_, rfl, rfl, Below.refl _ _⟩
    · intro a W hR hoff hd
      left
      refine ⟨rfl, ?_⟩
      have e0 : a.tmps.getD 0 undef = .pointer (some ⟨n, 0, none⟩) := hoff.slot 0 (no_dst (by kernel_rfl))
      go_simp
      exact ⟨_, rfl, rfl, Below.refl _ _⟩
    · intro a W hR hoff hd
      left
      refine ⟨rfl, ?_⟩
      have e0 : a.tmps.getD 47 undef = .pointer (some ⟨n, 0, none⟩) := hd 8 _ rfl rfl
      go_simp
      exact ⟨_, rfl, rfl, Below.refl _ _⟩
    · intro a W hR hoff hd
      left
      refine ⟨rfl, ?_⟩
      have e0 : a.tmps.getD 48 undef = .pointer (some ⟨n, 0, none⟩) := hd 9 _ rfl rfl
      go_simp
      exact ⟨_, rfl, rfl, Below.refl _ _⟩
    · intro a W hR hoff hd
      left
      refine ⟨rfl, ?_⟩
      have e0 : a.tmps.getD 49 undef = .pointer (some ⟨n, 3, none⟩) := hd 10 _ rfl rfl
      obtain ⟨x0, x1, x2, x3, x4, _⟩ := rjn_cells (HJX.out W hR)
      go_simp
      exact ⟨_, rfl, rfl, Below.refl _ _⟩
    · intro a W hR hoff hd
      left
      refine ⟨rfl, ?_⟩
      have e0 : a.tmps.getD 42 undef = .pointer (some ⟨m, 0, none⟩) := hd 3 _ rfl rfl
      have e1 : a.tmps.getD 46 undef = .int .i64 (fr : Int) := hd 7 _ rfl rfl
      have e2 : a.tmps.getD 50 undef = .int .i64 (en : Int) := hd 11 _ rfl rfl
      have HBY := Lib.hid (rbytes_any W m mp q bs s u (HRX.out W hR) fr en ((en + 63) / 64) rfl (by omega) (by omega))
      have hsz := hR.size
      have hsd : w1.drew.heap.size = w1.heap.size := rfl
      go_simp
      refine HBY.out.mono ?_
      rintro e W2 ⟨A5, c5, rfl, ho5, hb5⟩
      exact ⟨_, rfl, ⟨A5, c5, rfl, own_mono ho5 (by omega)⟩, hb5⟩
    · intro a W hR hoff hd
      left
      refine ⟨rfl, ?_⟩
      obtain ⟨A5, c5, e0, ho5⟩ : ∃ A c, a.tmps.getD 51 undef = .slice A en c ∧ W.ownsRow w.heap.size 5 1 (.slice A en c) en (bv (s.area fr en)) := hd 12 _ rfl rfl
      have HHO := Lib.hid ho5
      clear ho5
      go_simp
      exact ⟨_, rfl, ⟨A5, c5, rfl, HHO.out⟩, Below.refl _ _⟩
  · intro a W hRr hoff hf
    obtain ⟨A5, c5, e5, ho5⟩ : ∃ A c, a.tmps.getD 5 undef = .slice A en c ∧ W.ownsRow w.heap.size 5 1 (.slice A en c) en (bv (s.area fr en)) := hf 13 _ rfl
    have HO5 := Lib.hid ho5
    have HBW := Lib.hid (HBQ.out.drew.trans (hRr.mono HBQ.out.size))
    obtain ⟨ys, hys, ha⟩ := off_form hoff (mask := [false, false, false, false, false, true, false, false, false, false, false, false, false, false, false, false, false, false, false, false, false, false, false, false, false, false, false, false, false, false, false, false, false, false, false, false, false, false, false, true, true, true, true, true, true, true, true, true, true, true, true, true, false, false, false, false, false, false, false, false, false, false, false, false, false, false, false, false, false, false, false, false, false, false, false, false, false, false, false, false, false, false, false, false, false, false, false, false, false, false, false, false, false, false, false, false, false, false, false, false, false, false, false, false, false, false, false, false, false, false, false, false, false, false, false]) (by kernel_rfl)
    rw [hys] at e5
    rename_i hK
    subst ha
    refine hK _ _ ?_
    clear hf hoff hys hRr ho5 HRX HJX
    simp only [fillFrom, e5, Nat.zero_add, Nat.reduceAdd]
    go_wp2_with fail
    refine (rframe_any W A k c b (HB.out.below HBW.out) hk).mono ?_
    rintro e w2 ⟨A6, n6, c6, rfl, ho6, hb6⟩
    have hn6 : n6 = 16 + k := by
      have := ho6.1
      rw [bv_length, frameOf_length, hbl.out] at this
      omega
    subst hn6
    have HO52 := Lib.hid (own_belowG HO5.out hb6)
    have HH6 := Lib.hid (Hold.of_own ho6)
    have HB2 := Lib.hid (HBW.out.trans (hb6.mono HBW.out.size))
    clear ho6 hb6 HO5 HBW
    have hDok := HR.out.ok
    have hsec : fr + (en + 63) / 64 ≤ s.last.length := by omega
    have hk0 : fr + en / 64 < s.last.length := by omega
    have HAP : Hid (∀ j, ((s.area fr en ++ frameOf b).drop (64 * (en / 64 + j))).take 64 = ((s.appL (fr + en / 64) (en % 64) b).drop (64 * j)).take 64) := Lib.hid fun j => all_part hDok hsec hk0 j
    have hw2 := HB2.out.size
    have hflb : (frameOf b).length = 16 + k := by rw [frameOf_length, hbl.out]
    clear hDok
    go_wp2_with (at_builtin; refine wpList_append_hold rfl (.tmp 52) (.tmp 54) rfl w.heap.size (.slice A5 en c5) en (s.area fr en) rfl HO52.out A6 (16 + k) c6 (frameOf b) rfl HH6.out (by omega) hw2 ?_; intro A7 c7 w3 hown3 hgrow3; have hb3 := HB2.out.grown hgrow3 hw2 (fun k hk => (HO52.out.lt k hk).1); have hj3 : RJn w3 n m (fr : Int) (to : Int) (en : Int) (cn : Int) := (hb3.block n (Array.getElem?_eq_some_iff.1 HJ.out).1).trans HJ.out; obtain ⟨y0, y1, y2, y3, y4, _⟩ := rjn_cells hj3; have HO3 := Lib.hid hown3; have HB3 := Lib.hid hb3; have HJ3 := Lib.hid hj3; clear hown3 hgrow3 hb3 hj3)
    clear y0 y1 y2 y3 y4
    obtain ⟨b5, c5', hv5, _, _⟩ := HO3.out.form (by omega)
    injection hv5 with e1 e2 e3
    subst e1 e3
    obtain ⟨M, hM⟩ : ∃ M, M = en + (16 + k) := ⟨_, rfl⟩
    rw [← hM] at HO3 ⊢
    generalize hall : s.area fr en ++ frameOf b = all at *
    obtain ⟨ez, hez⟩ : ∃ ez, ez = en / 64 := ⟨_, rfl⟩
    obtain ⟨l, hl⟩ : ∃ l, l = s.appL (fr + ez) (en % 64) b := ⟨_, rfl⟩
    obtain ⟨N, hN⟩ : ∃ N, N = (en % 64 + 8 + 8 + k + 63) / 64 := ⟨_, rfl⟩
    have haW : s.appW (fr + en / 64) (en % 64) b = s.wrs (fr + ez) l N := by
      unfold D.appW
      rw [hl, hN, hez, hbl.out]
    rw [← hez, ← hl] at HAP
    have hM' : en + 16 + k = M := by omega
    have HMM := Lib.hid hM'
    have HAW := Lib.hid haW
    have HNM : ∀ j, j < N ↔ 64 * (ez + j) < M := fun j => by omega
    have hNb : N ≤ 65536 := by omega
    have hfN : fr + ez + N ≤ s.last.length := by omega
    have hstart : RL w n m mp q (fr : Int) (to : Int) (en : Int) (cn : Int) s u b5 M c7 all w3 := ⟨⟨q, bs, HR.out.below HB3.out, fun _ h => .inl h, Chg.of_below HB3.out⟩, HJ3.out, HO3.out⟩
    have HST := Lib.hid hstart
    have HEZ := Lib.hid hez
    have HHN := Lib.hid HNM
    have hMb : M ≤ 4194304 := by omega
    have hs0 : ((en : Int) / 64 * 64) = ((64 * (ez + 0) : Nat) : Int) := by omega
    have HS0 := Lib.hid hs0
    clear hstart hez HNM hN haW hM hM' hall hl HO3 HO52 HH6 HB2 hflb hs0 hfit hsec hk0
    go_loopw [6] (fun v wr => ∃ j, j ≤ N ∧ v = .int .i64 ((64 * (ez + j) : Nat) : Int) ∧ RL w n m mp q (fr : Int) (to : Int) (en : Int) (cn : Int) (s.wrs (fr + ez) l j) u b5 M c7 all wr) (fun v _ => 64 * (ez + N) - (intOf v).toNat)
    case atStart => exact ⟨0, by omega, by rw [HS0.out], HST.out⟩
    case round =>
      obtain ⟨j, hj, rfl, hL⟩ := hrel
      clear HST
      obtain ⟨q', bs', hk', hq', hc'⟩ := hL.ex
      have hlen' : (s.wrs (fr + ez) l j).buf.length = bs'.length := by rw [hk'.buf]; simp [rbuf]
      have hwb := wrs_buf s (fr + ez) l j
      have hwl := congrArg List.length (wrs_last s (fr + ez) l j)
      have HL := Lib.hid hL
      have HK' := Lib.hid hk'
      have HQ' := Lib.hid hq'
      have HC' := Lib.hid hc'
      clear hL hk' hq' hc'
      by_cases hlt : j < N
      · have hat : 64 * (ez + j) < M := (HHN.out j).1 hlt
        obtain ⟨nk, hnk⟩ : ∃ nk, nk = min 64 (M - 64 * (ez + j)) := ⟨_, rfl⟩
        have hdata : (all.drop (64 * (ez + j))).take nk = (l.drop (64 * j)).take 64 := by
          rw [← HAP.out j]
          have hal : all.length = M := by have := HL.out.row.1; simpa [bv_length] using this
          by_cases h64 : nk = 64
          · rw [h64]
          · rw [List.take_of_length_le (by rw [List.length_drop]; omega), List.take_of_length_le (by rw [List.length_drop]; omega)]
        have hwrt := rwrite_any wr.drew m mp q' bs' (s.wrs (fr + ez) l j) u HK'.out.drew (((fr + ez + j : Nat)) : Int) (some ⟨b5, 64 * (ez + j), none⟩) nk (c7 - 64 * (ez + j)) ((all.drop (64 * (ez + j))).take nk) ((Hold.part HL.out.row _ nk (by omega) hat).drew) (by omega)
        rw [wErr_in (by omega) (by omega), hdata] at hwrt
        obtain ⟨er, her⟩ : ∃ er : Int, er = if (s.wrs (fr + ez) l j).left = 0 then 32 else 0 := ⟨_, rfl⟩
        rw [← her] at hwrt
        have hpost : ∀ W2, RAfter wr.drew W2 m mp q' ((s.wrs (fr + ez) l j).wSt (((fr + ez + j : Nat)) : Int) ((l.drop (64 * j)).take 64)) u → RL w n m mp q (fr : Int) (to : Int) (en : Int) (cn : Int) (s.wrs (fr + ez) l (j + 1)) u b5 M c7 all W2 := fun W2 ha => RL.call (wr := wr.drew) ⟨⟨q', bs', HK'.out.drew, HQ'.out, HC'.out.drew⟩, HL.out.jn, HL.out.row⟩ HK'.out.drew HQ'.out HC'.out.drew ha
        have eqi : ((fr + ez + j : Nat) : Int) = (fr : Int) + ((ez + j : Nat) : Int) := by omega
        have hwrt' : Calls Try.prog 21 #[.pointer (some ⟨m, 0, none⟩), .int .i64 ((fr : Int) + ((ez + j : Nat) : Int)), .slice (some ⟨b5, 64 * (ez + j), none⟩) nk (c7 - 64 * (ez + j))] wr.drew fun e w' => e = .returned (.int .i64 er) ∧ RAfter wr.drew w' m mp q' ((s.wrs (fr + ez) l j).wSt (((fr + ez + j : Nat)) : Int) ((l.drop (64 * j)).take 64)) u := by rw [← eqi]; exact hwrt
        have HWR := Lib.hid hwrt'
        have HPO := Lib.hid hpost
        have HER := Lib.hid her
        have HJW : Hid (RJn wr.drew n m (fr : Int) (to : Int) (en : Int) (cn : Int)) := Lib.hid HL.out.jn
        obtain ⟨at_, hat_⟩ : ∃ at_ : Int, at_ = ((64 * (ez + j) : Nat) : Int) := ⟨_, rfl⟩
        have HAT := Lib.hid hat_
        have hatn : (0 : Int) ≤ at_ := by omega
        have hatb : at_ ≤ 4194304 := by omega
        have HTD : Hid (at_.tdiv 64 = ((ez + j : Nat) : Int)) := Lib.hid (by rw [Int.tdiv_eq_ediv_of_nonneg hatn]; omega)
        have hatM : at_ < (M : Int) := by omega
        have htn : at_.toNat = 64 * (ez + j) := by omega
        have hcap := (Hold.of_own HL.out.row).2.1
        rw [← hat_]
        have HWQ : Hid (IntKind.i64.wrap ((ez + j : Nat) : Int) = ((ez + j : Nat) : Int)) := Lib.hid (IntWalk.i64_in _ (by omega))
        have HWP : Hid (IntKind.i64.wrap ((fr : Int) + ((ez : Int) + (j : Int))) = (fr : Int) + ((ez + j : Nat) : Int)) := Lib.hid (by rw [Int.natCast_add]; exact IntWalk.i64_in _ (by omega))
        have hnkb : 64 * (ez + j) + nk ≤ M := by omega
        have HDEAD : Hid ((s.wrs (fr + ez) l j).left = 0 → s.wrs (fr + ez) l N = s.wrs (fr + ez) l (j + 1) ∧ (s.wrs (fr + ez) l (j + 1)).left = 0) := Lib.hid fun h0 => by
          have e1 := wrs_dead (k0 := fr + ez) (l := l) h0 (N - j)
          have e2 := wrs_dead (k0 := fr + ez) (l := l) h0 1
          rw [show j + (N - j) = N by omega] at e1
          rw [e1, e2]
          exact ⟨rfl, h0⟩
        have HNK := Lib.hid hnk
        clear hwrt hwrt' hpost her hdata hat_ eqi
        by_cases hgt : (M : Int) < at_ + 64
        · have HT : Hid ((M : Int) = at_ + (nk : Int)) := Lib.hid (by have := HAT.out; omega)
          have tT : (M : Int).toNat = 64 * (ez + j) + nk := by have := HT.out; have := HAT.out; omega
          have t1 : at_ ≤ (M : Int) := by omega
          have t2 : (M : Int) ≤ (c7 : Int) := by omega
          clear hnk
          go_wp2_with fail
          refine wp_region_stepsA (waF n m (fr : Int) at_ (M : Int) (ez + j) b5 M c7 nk er) (waJ wr.drew (RL w n m mp q (fr : Int) (to : Int) (en : Int) (cn : Int) (s.wrs (fr + ez) l (j + 1)) u b5 M c7 all)) (by kernel_rfl) (by kernel_rfl) ⟨fun _ => rfl, fun h => (by cases h)⟩ ?_ ?_
          · refine ⟨?_, ?_, ?_, ?_, ?_, ?_, ?_, ?_, ?_, ?_, ?_, ?_, ?_, ?_, ?_, ?_, ?_, trivial⟩
            · intro a W ls hJ hi hcl hd hoff hf
              left
              refine ⟨rfl, ?_⟩
              have e0 : a.tmps.getD 0 undef = .pointer (some ⟨n, 0, none⟩) := hoff.slot 0 (no_dst (by kernel_rfl))
              go_simp
              exact ⟨_, rfl, rfl, hJ.pure (by decide) _⟩
            · intro a W ls hJ hi hcl hd hoff hf
              left
              refine ⟨rfl, ?_⟩
              have e0 : a.tmps.getD 76 undef = .pointer (some ⟨n, 0, none⟩) := hf 0 _ (hd 0 rfl) rfl
              go_simp
              exact ⟨_, rfl, rfl, hJ.pure (by decide) _⟩
            · intro a W ls hJ hi hcl hd hoff hf
              left
              refine ⟨rfl, ?_⟩
              have e0 : a.tmps.getD 77 undef = .pointer (some ⟨n, 0, none⟩) := hf 1 _ (hd 1 rfl) rfl
              go_simp
              exact ⟨_, rfl, rfl, hJ.pure (by decide) _⟩
            · intro a W ls hJ hi hcl hd hoff hf
              left
              refine ⟨rfl, ?_⟩
              have e0 : a.tmps.getD 78 undef = .pointer (some ⟨n, 0, none⟩) := hf 2 _ (hd 2 rfl) rfl
              have h15 : ls 15 = false := hcl.no hi rfl rfl
              obtain rfl := hJ.1 h15
              obtain ⟨x0, x1, x2, x3, x4, _⟩ := rjn_cells HJW.out
              go_simp
              exact ⟨_, rfl, rfl, hJ.pure (by decide) _⟩
            · intro a W ls hJ hi hcl hd hoff hf
              left
              refine ⟨rfl, ?_⟩
              have e0 : a.tmps.getD 0 undef = .pointer (some ⟨n, 0, none⟩) := hoff.slot 0 (no_dst (by kernel_rfl))
              go_simp
              exact ⟨_, rfl, rfl, hJ.pure (by decide) _⟩
            · intro a W ls hJ hi hcl hd hoff hf
              left
              refine ⟨rfl, ?_⟩
              have e0 : a.tmps.getD 80 undef = .pointer (some ⟨n, 0, none⟩) := hf 4 _ (hd 4 rfl) rfl
              go_simp
              exact ⟨_, rfl, rfl, hJ.pure (by decide) _⟩
            · intro a W ls hJ hi hcl hd hoff hf
              left
              refine ⟨rfl, ?_⟩
              have e0 : a.tmps.getD 81 undef = .pointer (some ⟨n, 0, none⟩) := hf 5 _ (hd 5 rfl) rfl
              go_simp
              exact ⟨_, rfl, rfl, hJ.pure (by decide) _⟩
            · intro a W ls hJ hi hcl hd hoff hf
              left
              refine ⟨rfl, ?_⟩
              have e0 : a.tmps.getD 82 undef = .pointer (some ⟨n, 1, none⟩) := hf 6 _ (hd 6 rfl) rfl
              have h10 : ls 10 = false := hcl.no hi rfl rfl
              have h15 : ls 15 = false := hcl.no h10 rfl rfl
              obtain rfl := hJ.1 h15
              obtain ⟨x0, x1, x2, x3, x4, _⟩ := rjn_cells HJW.out
              go_simp
              exact ⟨_, rfl, rfl, hJ.pure (by decide) _⟩
            · intro a W ls hJ hi hcl hd hoff hf
              left
              refine ⟨rfl, ?_⟩
              have e0 : a.tmps.getD 6 undef = .int .i64 at_ := hoff.slot 6 (no_dst (by kernel_rfl))
              go_simp
              exact ⟨_, rfl, rfl, hJ.pure (by decide) _⟩
            · intro a W ls hJ hi hcl hd hoff hf
              left
              refine ⟨rfl, ?_⟩
              have e0 : a.tmps.getD 84 undef = .int .i64 at_ := hf 8 _ (hd 8 rfl) rfl
              go_simp
              exact ⟨_, rfl, by rw [HTD.out, HWQ.out]; rfl, hJ.pure (by decide) _⟩
            · intro a W ls hJ hi hcl hd hoff hf
              left
              refine ⟨rfl, ?_⟩
              have e0 : a.tmps.getD 83 undef = .int .i64 (fr : Int) := hf 7 _ (hd 7 rfl) rfl
              have e1 : a.tmps.getD 85 undef = .int .i64 ((ez + j : Nat) : Int) := hf 9 _ (hd 9 rfl) rfl
              go_simp
              exact ⟨_, rfl, by rw [HWP.out]; rfl, hJ.pure (by decide) _⟩
            · intro a W ls hJ hi hcl hd hoff hf
              left
              refine ⟨rfl, ?_⟩
              have e0 : a.tmps.getD 5 undef = .slice (some ⟨b5, 0, none⟩) M c7 := hoff.slot 5 (no_dst (by kernel_rfl))
              go_simp
              exact ⟨_, rfl, rfl, hJ.pure (by decide) _⟩
            · intro a W ls hJ hi hcl hd hoff hf
              left
              refine ⟨rfl, ?_⟩
              have e0 : a.tmps.getD 6 undef = .int .i64 at_ := hoff.slot 6 (no_dst (by kernel_rfl))
              go_simp
              exact ⟨_, rfl, rfl, hJ.pure (by decide) _⟩
            · intro a W ls hJ hi hcl hd hoff hf
              left
              refine ⟨rfl, ?_⟩
              have e0 : a.tmps.getD 7 undef = .int .i64 (M : Int) := hoff.slot 7 (no_dst (by kernel_rfl))
              go_simp
              exact ⟨_, rfl, rfl, hJ.pure (by decide) _⟩
            · intro a W ls hJ hi hcl hd hoff hf
              left
              refine ⟨rfl, ?_⟩
              have e0 : a.tmps.getD 87 undef = .slice (some ⟨b5, 0, none⟩) M c7 := hf 11 _ (hd 11 rfl) rfl
              have e1 : a.tmps.getD 88 undef = .int .i64 at_ := hf 12 _ (hd 12 rfl) rfl
              have e2 : a.tmps.getD 89 undef = .int .i64 (M : Int) := hf 13 _ (hd 13 rfl) rfl
              have q1 : 64 * (ez + j) + nk - 64 * (ez + j) = nk := by omega
              have q2 : ¬ c7 = 64 * (ez + j) := by omega
              go_simp
              exact ⟨_, rfl, rfl, hJ.pure (by decide) _⟩
            · intro a W ls hJ hi hcl hd hoff hf
              left
              refine ⟨rfl, ?_⟩
              have e0 : a.tmps.getD 79 undef = .pointer (some ⟨m, 0, none⟩) := hf 3 _ (hd 3 rfl) rfl
              have e1 : a.tmps.getD 86 undef = .int .i64 ((fr : Int) + ((ez + j : Nat) : Int)) := hf 10 _ (hd 10 rfl) rfl
              have e2 : a.tmps.getD 90 undef = .slice (some ⟨b5, 64 * (ez + j), none⟩) nk (c7 - 64 * (ez + j)) := hf 14 _ (hd 14 rfl) rfl
              obtain rfl := hJ.1 hi
              go_simp
              refine HWR.out.mono ?_
              rintro e W2 ⟨rfl, ha⟩
              exact ⟨_, rfl, rfl, waJ.done (HPO.out W2 ha) _⟩
            · intro a W ls hJ hi hcl hd hoff hf
              left
              refine ⟨rfl, ?_⟩
              have e0 : a.tmps.getD 91 undef = .int .i64 er := hf 15 _ (hd 15 rfl) rfl
              go_simp
              exact ⟨_, rfl, rfl, hJ.pure (by decide) _⟩
          · intro a W ls hall hJ hoff hf
            have e8 : a.tmps.getD 8 undef = .int .i64 er := hf 16 _ rfl
            have HRL := Lib.hid (hJ.2 (hall 15 (by decide)))
            obtain ⟨ys, hys, ha⟩ := off_form hoff (mask := [false, false, false, false, false, false, false, false, true, false, false, false, false, false, false, false, false, false, false, false, false, false, false, false, false, false, false, false, false, false, false, false, false, false, false, false, false, false, false, false, false, false, false, false, false, false, false, false, false, false, false, false, false, false, false, false, false, false, false, false, false, false, false, false, false, false, false, false, false, false, false, false, false, false, false, false, true, true, true, true, true, true, true, true, true, true, true, true, true, true, true, true, false, false, false, false, false, false, false, false, false, false, false, false, false, false, false, false, false, false, false, false, false, false, false]) (by kernel_rfl)
            rw [hys] at e8
            rename_i hK
            subst ha
            refine hK _ _ ?_
            clear hf hoff hys hJ hall HWR HPO HJW
            simp only [fillFrom, e8, Nat.zero_add, Nat.reduceAdd]
            by_cases h0 : (s.wrs (fr + ez) l j).left = 0
            · obtain ⟨dd1, dd2⟩ := HDEAD.out h0
              have her : er = 32 := by rw [HER.out, if_pos h0]
              subst her
              have HF : Hid (RAppUp w n m mp q fr to en cn (en + 16 + k) (s.appW (fr + en / 64) (en % 64) b) (u + 1048576) (.returned (.int .i64 32)) W) := Lib.hid (by
                unfold RAppUp
                rw [HAW.out, dd1, fErr_dead dd2, fSt_dead dd2]
                refine ⟨rfl, ?_⟩
                rw [if_neg (by decide), if_neg (by decide)]
                obtain ⟨q2, bs2, z1, z2, z3, z4⟩ := HRL.out.fin
                exact ⟨q2, bs2, z1.more (by omega), z2, z3, z4⟩)
              clear dd1 dd2 h0
              go_wp2_with fail
              go_ret
              exact HF.out
            · have her : er = 0 := by rw [HER.out, if_neg h0]
              subst her
              go_wp2_with fail
              go_roundw
              case rel => exact ⟨j + 1, by omega, by rw [HAT.out]; congr 1, HRL.out⟩
              case measure => simp only [intOf]; rw [HAT.out]; omega
        · have HT : Hid (at_ + 64 = at_ + (nk : Int)) := Lib.hid (by have := HAT.out; omega)
          have tT : (at_ + 64).toNat = 64 * (ez + j) + nk := by have := HT.out; have := HAT.out; omega
          have t1 : at_ ≤ at_ + 64 := by omega
          have t2 : at_ + 64 ≤ (c7 : Int) := by omega
          clear hnk
          go_wp2_with fail
          refine wp_region_stepsA (waF n m (fr : Int) at_ (at_ + 64) (ez + j) b5 M c7 nk er) (waJ wr.drew (RL w n m mp q (fr : Int) (to : Int) (en : Int) (cn : Int) (s.wrs (fr + ez) l (j + 1)) u b5 M c7 all)) (by kernel_rfl) (by kernel_rfl) ⟨fun _ => rfl, fun h => (by cases h)⟩ ?_ ?_
          · refine ⟨?_, ?_, ?_, ?_, ?_, ?_, ?_, ?_, ?_, ?_, ?_, ?_, ?_, ?_, ?_, ?_, ?_, trivial⟩
            · intro a W ls hJ hi hcl hd hoff hf
              left
              refine ⟨rfl, ?_⟩
              have e0 : a.tmps.getD 0 undef = .pointer (some ⟨n, 0, none⟩) := hoff.slot 0 (no_dst (by kernel_rfl))
              go_simp
              exact ⟨_, rfl, rfl, hJ.pure (by decide) _⟩
            · intro a W ls hJ hi hcl hd hoff hf
              left
              refine ⟨rfl, ?_⟩
              have e0 : a.tmps.getD 76 undef = .pointer (some ⟨n, 0, none⟩) := hf 0 _ (hd 0 rfl) rfl
              go_simp
              exact ⟨_, rfl, rfl, hJ.pure (by decide) _⟩
            · intro a W ls hJ hi hcl hd hoff hf
              left
              refine ⟨rfl, ?_⟩
              have e0 : a.tmps.getD 77 undef = .pointer (some ⟨n, 0, none⟩) := hf 1 _ (hd 1 rfl) rfl
              go_simp
              exact ⟨_, rfl, rfl, hJ.pure (by decide) _⟩
            · intro a W ls hJ hi hcl hd hoff hf
              left
              refine ⟨rfl, ?_⟩
              have e0 : a.tmps.getD 78 undef = .pointer (some ⟨n, 0, none⟩) := hf 2 _ (hd 2 rfl) rfl
              have h15 : ls 15 = false := hcl.no hi rfl rfl
              obtain rfl := hJ.1 h15
              obtain ⟨x0, x1, x2, x3, x4, _⟩ := rjn_cells HJW.out
              go_simp
              exact ⟨_, rfl, rfl, hJ.pure (by decide) _⟩
            · intro a W ls hJ hi hcl hd hoff hf
              left
              refine ⟨rfl, ?_⟩
              have e0 : a.tmps.getD 0 undef = .pointer (some ⟨n, 0, none⟩) := hoff.slot 0 (no_dst (by kernel_rfl))
              go_simp
              exact ⟨_, rfl, rfl, hJ.pure (by decide) _⟩
            · intro a W ls hJ hi hcl hd hoff hf
              left
              refine ⟨rfl, ?_⟩
              have e0 : a.tmps.getD 80 undef = .pointer (some ⟨n, 0, none⟩) := hf 4 _ (hd 4 rfl) rfl
              go_simp
              exact ⟨_, rfl, rfl, hJ.pure (by decide) _⟩
            · intro a W ls hJ hi hcl hd hoff hf
              left
              refine ⟨rfl, ?_⟩
              have e0 : a.tmps.getD 81 undef = .pointer (some ⟨n, 0, none⟩) := hf 5 _ (hd 5 rfl) rfl
              go_simp
              exact ⟨_, rfl, rfl, hJ.pure (by decide) _⟩
            · intro a W ls hJ hi hcl hd hoff hf
              left
              refine ⟨rfl, ?_⟩
              have e0 : a.tmps.getD 82 undef = .pointer (some ⟨n, 1, none⟩) := hf 6 _ (hd 6 rfl) rfl
              have h10 : ls 10 = false := hcl.no hi rfl rfl
              have h15 : ls 15 = false := hcl.no h10 rfl rfl
              obtain rfl := hJ.1 h15
              obtain ⟨x0, x1, x2, x3, x4, _⟩ := rjn_cells HJW.out
              go_simp
              exact ⟨_, rfl, rfl, hJ.pure (by decide) _⟩
            · intro a W ls hJ hi hcl hd hoff hf
              left
              refine ⟨rfl, ?_⟩
              have e0 : a.tmps.getD 6 undef = .int .i64 at_ := hoff.slot 6 (no_dst (by kernel_rfl))
              go_simp
              exact ⟨_, rfl, rfl, hJ.pure (by decide) _⟩
            · intro a W ls hJ hi hcl hd hoff hf
              left
              refine ⟨rfl, ?_⟩
              have e0 : a.tmps.getD 84 undef = .int .i64 at_ := hf 8 _ (hd 8 rfl) rfl
              go_simp
              exact ⟨_, rfl, by rw [HTD.out, HWQ.out]; rfl, hJ.pure (by decide) _⟩
            · intro a W ls hJ hi hcl hd hoff hf
              left
              refine ⟨rfl, ?_⟩
              have e0 : a.tmps.getD 83 undef = .int .i64 (fr : Int) := hf 7 _ (hd 7 rfl) rfl
              have e1 : a.tmps.getD 85 undef = .int .i64 ((ez + j : Nat) : Int) := hf 9 _ (hd 9 rfl) rfl
              go_simp
              exact ⟨_, rfl, by rw [HWP.out]; rfl, hJ.pure (by decide) _⟩
            · intro a W ls hJ hi hcl hd hoff hf
              left
              refine ⟨rfl, ?_⟩
              have e0 : a.tmps.getD 5 undef = .slice (some ⟨b5, 0, none⟩) M c7 := hoff.slot 5 (no_dst (by kernel_rfl))
              go_simp
              exact ⟨_, rfl, rfl, hJ.pure (by decide) _⟩
            · intro a W ls hJ hi hcl hd hoff hf
              left
              refine ⟨rfl, ?_⟩
              have e0 : a.tmps.getD 6 undef = .int .i64 at_ := hoff.slot 6 (no_dst (by kernel_rfl))
              go_simp
              exact ⟨_, rfl, rfl, hJ.pure (by decide) _⟩
            · intro a W ls hJ hi hcl hd hoff hf
              left
              refine ⟨rfl, ?_⟩
              have e0 : a.tmps.getD 7 undef = .int .i64 (at_ + 64) := hoff.slot 7 (no_dst (by kernel_rfl))
              go_simp
              exact ⟨_, rfl, rfl, hJ.pure (by decide) _⟩
            · intro a W ls hJ hi hcl hd hoff hf
              left
              refine ⟨rfl, ?_⟩
              have e0 : a.tmps.getD 87 undef = .slice (some ⟨b5, 0, none⟩) M c7 := hf 11 _ (hd 11 rfl) rfl
              have e1 : a.tmps.getD 88 undef = .int .i64 at_ := hf 12 _ (hd 12 rfl) rfl
              have e2 : a.tmps.getD 89 undef = .int .i64 (at_ + 64) := hf 13 _ (hd 13 rfl) rfl
              have q1 : 64 * (ez + j) + nk - 64 * (ez + j) = nk := by omega
              have q2 : ¬ c7 = 64 * (ez + j) := by omega
              go_simp
              exact ⟨_, rfl, rfl, hJ.pure (by decide) _⟩
            · intro a W ls hJ hi hcl hd hoff hf
              left
              refine ⟨rfl, ?_⟩
              have e0 : a.tmps.getD 79 undef = .pointer (some ⟨m, 0, none⟩) := hf 3 _ (hd 3 rfl) rfl
              have e1 : a.tmps.getD 86 undef = .int .i64 ((fr : Int) + ((ez + j : Nat) : Int)) := hf 10 _ (hd 10 rfl) rfl
              have e2 : a.tmps.getD 90 undef = .slice (some ⟨b5, 64 * (ez + j), none⟩) nk (c7 - 64 * (ez + j)) := hf 14 _ (hd 14 rfl) rfl
              obtain rfl := hJ.1 hi
              go_simp
              refine HWR.out.mono ?_
              rintro e W2 ⟨rfl, ha⟩
              exact ⟨_, rfl, rfl, waJ.done (HPO.out W2 ha) _⟩
            · intro a W ls hJ hi hcl hd hoff hf
              left
              refine ⟨rfl, ?_⟩
              have e0 : a.tmps.getD 91 undef = .int .i64 er := hf 15 _ (hd 15 rfl) rfl
              go_simp
              exact ⟨_, rfl, rfl, hJ.pure (by decide) _⟩
          · intro a W ls hall hJ hoff hf
            have e8 : a.tmps.getD 8 undef = .int .i64 er := hf 16 _ rfl
            have HRL := Lib.hid (hJ.2 (hall 15 (by decide)))
            obtain ⟨ys, hys, ha⟩ := off_form hoff (mask := [false, false, false, false, false, false, false, false, true, false, false, false, false, false, false, false, false, false, false, false, false, false, false, false, false, false, false, false, false, false, false, false, false, false, false, false, false, false, false, false, false, false, false, false, false, false, false, false, false, false, false, false, false, false, false, false, false, false, false, false, false, false, false, false, false, false, false, false, false, false, false, false, false, false, false, false, true, true, true, true, true, true, true, true, true, true, true, true, true, true, true, true, false, false, false, false, false, false, false, false, false, false, false, false, false, false, false, false, false, false, false, false, false, false, false]) (by kernel_rfl)
            rw [hys] at e8
            rename_i hK
            subst ha
            refine hK _ _ ?_
            clear hf hoff hys hJ hall HWR HPO HJW
            simp only [fillFrom, e8, Nat.zero_add, Nat.reduceAdd]
            by_cases h0 : (s.wrs (fr + ez) l j).left = 0
            · obtain ⟨dd1, dd2⟩ := HDEAD.out h0
              have her : er = 32 := by rw [HER.out, if_pos h0]
              subst her
              have HF : Hid (RAppUp w n m mp q fr to en cn (en + 16 + k) (s.appW (fr + en / 64) (en % 64) b) (u + 1048576) (.returned (.int .i64 32)) W) := Lib.hid (by
                unfold RAppUp
                rw [HAW.out, dd1, fErr_dead dd2, fSt_dead dd2]
                refine ⟨rfl, ?_⟩
                rw [if_neg (by decide), if_neg (by decide)]
                obtain ⟨q2, bs2, z1, z2, z3, z4⟩ := HRL.out.fin
                exact ⟨q2, bs2, z1.more (by omega), z2, z3, z4⟩)
              clear dd1 dd2 h0
              go_wp2_with fail
              go_ret
              exact HF.out
            · have her : er = 0 := by rw [HER.out, if_neg h0]
              subst her
              go_wp2_with fail
              go_roundw
              case rel => exact ⟨j + 1, by omega, by rw [HAT.out]; congr 1, HRL.out⟩
              case measure => simp only [intOf]; rw [HAT.out]; omega
      · obtain rfl : N = j := by omega
        have hno : ¬ 64 * (ez + N) < M := fun h => Nat.lt_irrefl N ((HHN.out N).2 h)
        have hnoI : ¬ ((64 * (ez + N) : Nat) : Int) < (M : Int) := by omega
        have hfl := rflush_any wr m mp q' bs' (s.wrs (fr + ez) l N) u HK'.out (by omega) hu
        have HFL := Lib.hid hfl
        have HPO : Hid (∀ W2, RAfter wr W2 m mp q' (s.wrs (fr + ez) l N).fSt (u + bs'.length) → RL w n m mp q (fr : Int) (to : Int) (en : Int) (cn : Int) (s.wrs (fr + ez) l N).fSt (u + 1048576) b5 M c7 all W2) := Lib.hid fun W2 ha => RL.call (wr := wr) HL.out HK'.out HQ'.out HC'.out (ha.more (by omega))
        obtain ⟨x0, x1, x2, x3, x4, _⟩ := rjn_cells HL.out.jn
        have hfe : (s.wrs (fr + ez) l N).fErr = 0 ∨ (s.wrs (fr + ez) l N).fErr = 32 := by unfold D.fErr; split <;> simp
        clear hfl hno
        obtain ⟨er, her⟩ : ∃ er, er = (s.wrs (fr + ez) l N).fErr := ⟨_, rfl⟩
        rw [← her] at hfe HFL
        have HER := Lib.hid her
        clear her
        go_wp2_with fail
        refine HFL.out.mono ?_
        rintro e W2 ⟨rfl, ha⟩
        have HR2 := Lib.hid (HPO.out W2 ha)
        obtain ⟨z0, z1, z2, z3, z4, zf⟩ := rjn_cells HR2.out.jn
        have zf3 := zf 3
        have zf4 := zf 4
        clear ha HPO HFL zf x0 x1 x2 x3 x4
        rcases hfe with hfe | hfe
        all_goals rw [HER.out] at hfe
        all_goals have hfe := hfe.symm
        all_goals rw [HER.out, ← hfe]
        · have HF := Lib.hid (HR2.out.fin.set (M : Int) ((cn : Int) + 1))
          have HZ := Lib.hid hfe
          clear hfe
          go_wp2_with fail
          go_ret
          unfold RAppUp
          rw [HAW.out, HMM.out, ← HZ.out, if_pos rfl, if_pos rfl]
          exact ⟨rfl, HF.out⟩
        · have HF := Lib.hid HR2.out.fin
          have HZ := Lib.hid hfe
          clear hfe
          go_wp2_with fail
          go_ret
          unfold RAppUp
          rw [HAW.out, HMM.out, ← HZ.out, if_neg (by decide), if_neg (by decide)]
          exact ⟨rfl, HF.out⟩
end Go.Proofs.Ytkghjgpeobacjaa
