/-
  What is proved: the texts Gm, Gw in one: what each proves stands ahead of it. Conditions: those in each statement.
-/
import Derived.Test.YtbfhlleipeipbaaM4
/- What is proved: plain facts on four pairs of short values. No program in it. Conditions: those in each statement. -/
namespace Go.Proofs.Ytbfhlleipeipbaa
open Go.RowKit

/-- the key of a number -/
def keyN : Nat → ByteArray
  | 0 => ⟨#[97]⟩
  | 1 => ⟨#[98]⟩
  | 2 => ⟨#[99]⟩
  | _ => ⟨#[100]⟩
def one (n : Nat) (o : Option ByteArray) : List Cg := match o with
  | none => []
  | some v => [⟨keyN n, v, false⟩]
/-- the pairs of what four keys have -/
def PP (o : Nat → Option ByteArray) : List Cg := one 0 (o 0) ++ (one 1 (o 1) ++ (one 2 (o 2) ++ one 3 (o 3)))
def updO (o : Nat → Option ByteArray) (k : Nat) (v : ByteArray) : Nat → Option ByteArray := fun n => if n = k then some v else o n
def hasO (o : Option ByteArray) : ByteArray := o.getD ⟨#[]⟩
theorem PP_upd (o : Nat → Option ByteArray) (k : Nat) (hk : k < 4) (v : ByteArray) : allC (PP o) [⟨keyN k, v, false⟩] = PP (updO o k v) := by
  unfold PP updO
  rcases (show k = 0 ∨ k = 1 ∨ k = 2 ∨ k = 3 by omega) with rfl | rfl | rfl | rfl
  all_goals
    simp only [if_true, show ¬ (0 : Nat) = 1 by omega, show ¬ (0 : Nat) = 2 by omega, show ¬ (0 : Nat) = 3 by omega, show ¬ (1 : Nat) = 0 by omega, show ¬ (1 : Nat) = 2 by omega, show ¬ (1 : Nat) = 3 by omega, show ¬ (2 : Nat) = 0 by omega, show ¬ (2 : Nat) = 1 by omega, show ¬ (2 : Nat) = 3 by omega, show ¬ (3 : Nat) = 0 by omega, show ¬ (3 : Nat) = 1 by omega, show ¬ (3 : Nat) = 2 by omega, if_false]
    generalize o 0 = o0
    generalize o 1 = o1
    generalize o 2 = o2
    generalize o 3 = o3
    cases o0 <;> cases o1 <;> cases o2 <;> cases o3 <;> rfl
theorem PP_val (o : Nat → Option ByteArray) (k : Nat) (hk : k < 4) : (valOf (PP o) (keyN k).data.toList).1 = hasO (o k) := by
  unfold PP
  rcases (show k = 0 ∨ k = 1 ∨ k = 2 ∨ k = 3 by omega) with rfl | rfl | rfl | rfl
  all_goals
    generalize o 0 = o0
    generalize o 1 = o1
    generalize o 2 = o2
    generalize o 3 = o3
    cases o0 <;> cases o1 <;> cases o2 <;> cases o3 <;> rfl
theorem PP_none : PP (fun _ => none) = [] := rfl
def ShortO (o : Nat → Option ByteArray) : Prop := ∀ n v, o n = some v → v.size = 3
theorem one_len {n : Nat} {o : Option ByteArray} (h : ∀ v, o = some v → v.size = 3) : (chsB (one n o)).length ≤ 21 ∧ (one n o).length ≤ 1 ∧ ∀ y ∈ one n o, y.key.size + y.val.size ≤ 4 := by
  cases o with
  | none => exact ⟨Nat.zero_le _, Nat.zero_le _, fun y hy => by cases hy⟩
  | some v =>
    have hv := h v rfl
    have hk : (keyN n).size = 1 := by
      match n with
      | 0 | 1 | 2 => rfl
      | _ + 3 => rfl
    refine ⟨?_, Nat.le_refl _, fun y hy => ?_⟩
    · show (chsB [⟨keyN n, v, false⟩]).length ≤ 21
      rw [chsB_cons, List.length_append, chB_length]
      have h1 : (ky (⟨keyN n, v, false⟩ : Cg)).length = 1 := by rw [show (ky (⟨keyN n, v, false⟩ : Cg)).length = (keyN n).size from size_toList _]; exact hk
      have h2 : (vl (⟨keyN n, v, false⟩ : Cg)).length = 3 := by rw [show (vl (⟨keyN n, v, false⟩ : Cg)).length = v.size from size_toList _]; exact hv
      rw [h1, h2]
      simp [chsB]
    · have : y = ⟨keyN n, v, false⟩ := by simpa [one] using hy
      rw [this]
      show (keyN n).size + v.size ≤ 4
      omega
theorem PP_len {o : Nat → Option ByteArray} (h : ShortO o) : (chsB (PP o)).length ≤ 84 ∧ (PP o).length ≤ 4 ∧ ∀ y ∈ PP o, y.key.size + y.val.size ≤ 4 := by
  obtain ⟨a0, b0, c0⟩ := one_len (n := 0) (h 0)
  obtain ⟨a1, b1, c1⟩ := one_len (n := 1) (h 1)
  obtain ⟨a2, b2, c2⟩ := one_len (n := 2) (h 2)
  obtain ⟨a3, b3, c3⟩ := one_len (n := 3) (h 3)
  refine ⟨?_, ?_, fun y hy => ?_⟩
  · unfold PP
    rw [chsB_append, chsB_append, chsB_append, List.length_append, List.length_append, List.length_append]
    omega
  · unfold PP
    rw [List.length_append, List.length_append, List.length_append]
    omega
  · unfold PP at hy
    rcases List.mem_append.1 hy with hy | hy
    · exact c0 y hy
    · rcases List.mem_append.1 hy with hy | hy
      · exact c1 y hy
      · rcases List.mem_append.1 hy with hy | hy
        · exact c2 y hy
        · exact c3 y hy
theorem ShortO.upd {o : Nat → Option ByteArray} (h : ShortO o) (k : Nat) {v : ByteArray} (hv : v.size = 3) : ShortO (updO o k v) := fun n u hu => by
  unfold updO at hu
  by_cases hn : n = k
  · rw [if_pos hn] at hu; cases hu; exact hv
  · rw [if_neg hn] at hu; exact h n u hu
/-- what a Commit of one such pair asks -/
theorem go_sized {o : Nat → Option ByteArray} (h : ShortO o) (k : Nat) (hk : k < 4) {v : ByteArray} (hv : v.size = 3) : Sized (PP o) [⟨keyN k, v, false⟩] ∧ fitsB 10 0 (batB (allC (PP o) [⟨keyN k, v, false⟩])).length := by
  obtain ⟨p1, p2, p3⟩ := PP_len h
  obtain ⟨q1, q2, q3⟩ := PP_len (h.upd k hv)
  have hs : (keyN k).size = 1 := by
    match k with
    | 0 | 1 | 2 => rfl
    | _ + 3 => rfl
  have hone := one_len (n := k) (o := some v) (fun u hu => by cases hu; exact hv)
  have hbl : (batB [(⟨keyN k, v, false⟩ : Cg)]).length ≤ 29 := by rw [batB_length]; have := hone.1; show 8 + (chsB (one k (some v))).length ≤ 29; omega
  refine ⟨⟨by omega, ?_, ?_, ?_, ?_⟩, ?_⟩
  · intro y hy
    have := hone.2.2 y hy
    omega
  · show ((PP o).length + 1) * 40 ≤ _
    omega
  · rw [PP_upd o k hk v]; omega
  · rw [PP_upd o k hk v]; intro y hy; have := q3 y hy; omega
  · rw [PP_upd o k hk v, batB_length]
    unfold fitsB hlf
    omega
end Go.Proofs.Ytbfhlleipeipbaa

/- What is proved: the walk of StoreGoesOn: it answers true, and turns nothing that was there. Conditions: those in each statement. -/
namespace Go.Proofs.Ytbfhlleipeipbaa
open Go.RowKit

def strs (o : Nat → Option ByteArray) : Array Value := #[.string (hasO (o 0)), .string (hasO (o 1)), .string (hasO (o 2)), .string (hasO (o 3))]
/-- what holds at the head of a round -/
structure GoI (w : World) (sb cb g hb i : Nat) (o : Nat → Option ByteArray) (W : World) : Prop where
  ex : ∃ x a en cn, SMem w W sb cb g x ∧ Inv 10 i x a en cn ∧ x.P = PP o
  sh : ShortO o
  bx : W.heap[hb]? = some (.cells (strs o) 54 (0, 0))
  lo : w.heap.size ≤ hb

/-- the first line of a round: values, worlds -/
def g9V (bb off i n c k hb m : Nat) (b p q : Nat) (X Y : UInt8) : Nat → Value
  | 0 => .int .i64 (k : Int)
  | 1 | 7 => .slice (some ⟨bb, off, none⟩) n c
  | 2 | 8 => .int .i64 (i : Int)
  | 3 | 9 => .pointer (some ⟨bb, off + i, none⟩)
  | 4 | 10 => .int .u8 (b : Int)
  | 5 => .int .u8 (p : Int)
  | 6 => .int .u8 (X.toNat : Int)
  | 11 => .int .u8 (q : Int)
  | 12 => .int .u8 (Y.toNat : Int)
  | 13 => .slice (some ⟨m, 0, none⟩) 2 2
  | 14 => .string ⟨#[X, Y]⟩
  | 15 => .string (⟨#[118]⟩ ++ ⟨#[X, Y]⟩)
  | 16 => .pointer (some ⟨hb, k, none⟩)
  | _ => .tuple #[]
def g9A (V : World) (X Y : UInt8) : World := V.alloc (.cells #[.int .u8 (X.toNat : Int), .int .u8 (Y.toNat : Int)] 5)
def g9B (V : World) (hb k : Nat) (X Y : UInt8) : World := (g9A V X Y).setCell ⟨hb, k, none⟩ (.string (⟨#[118]⟩ ++ ⟨#[X, Y]⟩))
def g9W (V : World) (hb k : Nat) (X Y : UInt8) (ls : Nat → Bool) : World := if ls 17 = true then g9B V hb k X Y else if ls 13 = true then g9A V X Y else V
theorem g9W_0 {V : World} {hb k : Nat} {X Y : UInt8} {ls : Nat → Bool} (h1 : ls 17 = false) (h2 : ls 13 = false) : g9W V hb k X Y ls = V := by simp [g9W, h1, h2]
theorem g9W_1 {V : World} {hb k : Nat} {X Y : UInt8} {ls : Nat → Bool} (h1 : ls 17 = false) (h2 : ls 13 = true) : g9W V hb k X Y ls = g9A V X Y := by simp [g9W, h1, h2]
theorem g9W_2 {V : World} {hb k : Nat} {X Y : UInt8} {ls : Nat → Bool} (h1 : ls 17 = true) : g9W V hb k X Y ls = g9B V hb k X Y := by simp [g9W, h1]
theorem g9W_keep {V : World} {hb k : Nat} {X Y : UInt8} {ls : Nat → Bool} {i : Nat} (h1 : i ≠ 17) (h2 : i ≠ 13) : g9W V hb k X Y (updB ls i) = g9W V hb k X Y ls := by
  unfold g9W; rw [updB_other ls (Ne.symm h1), updB_other ls (Ne.symm h2)]
theorem vS_size (X Y : UInt8) : ((⟨#[118]⟩ : ByteArray) ++ ⟨#[X, Y]⟩).size = 3 := by rfl
theorem strs_upd (o : Nat → Option ByteArray) (k : Nat) (hk : k < 4) (v : ByteArray) : (strs o).setIfInBounds k (.string v) = strs (updO o k v) := by
  rcases (show k = 0 ∨ k = 1 ∨ k = 2 ∨ k = 3 by omega) with rfl | rfl | rfl | rfl <;> rfl

theorem SMem.chg {w0 W W' : World} {sb cb g hb : Nat} {x : SS} {C : Array Value} {t : TypeId} {fr : Nat × Nat} (h : SMem w0 W sb cb g x) (hx : W.heap[hb]? = some (.cells C t fr)) (h1 : t ≠ 61) (h2 : t ≠ 88) (h3 : t ≠ 90) (h4 : t ≠ 101) (h5 : t ≠ 82) (h6 : t ≠ 52) (hc : Chg (fun b => b = hb) W W') (h0 : w0.heap.size ≤ hb) : SMem w0 W' sb cb g x := by
  have k : ∀ (b : Nat) (C' : Array Value) (t' : TypeId) (fr' : Nat × Nat), W.heap[b]? = some (.cells C' t' fr') → t' ≠ t → W'.heap[b]? = some (.cells C' t' fr') := fun b C' t' fr' hb' hne => (hc.block b (Array.getElem?_eq_some_iff.1 hb').1 (tag_ne hb' hx hne)).trans hb'
  obtain ⟨A, n, c, hs, hp⟩ := h.ex
  refine ⟨h.m.frame hc (fun b hb => by subst hb; exact h0) (fun b hb => by subst hb; exact ⟨_, _, _, hx, h1, h2, h3⟩), k cb _ 101 (0, 0) h.cl (Ne.symm h4), ⟨A, n, c, k sb _ 82 (0, 0) hs (Ne.symm h5), hp.1, ?_⟩, h.lo⟩
  rcases hp.2 with e | ⟨q, cap, cur, hv, hb', hg, r⟩
  · exact .inl e
  · exact .inr ⟨q, cap, cur, hv, hb', k q cur 52 (0, 0) hg (Ne.symm h6), r⟩
/-- the line of the Commit -/
def g10F (sb hb k m : Nat) (K : UInt8) (ks vs : ByteArray) : Nat → Value → Prop
  | 0, v => v = .pointer (some ⟨sb, 0, none⟩)
  | 1, v | 6, v => v = .int .i64 (k : Int)
  | 2, v => v = .int .u8 (k : Int)
  | 3, v => v = .int .u8 (K.toNat : Int)
  | 4, v => v = .slice (some ⟨m, 0, none⟩) 1 1
  | 5, v => v = .string ks
  | 7, v => v = .pointer (some ⟨hb, k, none⟩)
  | 8, v => v = .string vs
  | 9, v => v = .agg #[.string ks, .string vs, .bool false]
  | 10, v => v = .slice (some ⟨m + 1, 0, none⟩) 1 1
  | 11, v => v = .int .i64 0
  | 12, v => v = .bool false
  | _, _ => True
def g10A (Z : World) (K : UInt8) : World := Z.alloc (.cells #[.int .u8 (K.toNat : Int)] 5)
def g10B (Z : World) (K : UInt8) (ks vs : ByteArray) : World := (g10A Z K).alloc (.cells #[.string ks, .string vs, .bool false] 52)
def g10J (Z : World) (K : UInt8) (ks vs : ByteArray) (Q : World → Prop) (ls : Nat → Bool) (W : World) : Prop :=
  if ls 11 = true then Q W else if ls 10 = true then W = g10B Z K ks vs else if ls 4 = true then W = g10A Z K else W = Z
section
variable {Z W : World} {K : UInt8} {ks vs : ByteArray} {Q : World → Prop} {ls : Nat → Bool} {i : Nat}
theorem g10J.keep (h : g10J Z K ks vs Q ls W) (h1 : i ≠ 11) (h2 : i ≠ 10) (h3 : i ≠ 4) : g10J Z K ks vs Q (updB ls i) W := by
  unfold g10J at *; rwa [updB_other ls (Ne.symm h1), updB_other ls (Ne.symm h2), updB_other ls (Ne.symm h3)]
theorem g10J.at0 (h : g10J Z K ks vs Q ls W) (h1 : ls 11 = false) (h2 : ls 10 = false) (h3 : ls 4 = false) : W = Z := by unfold g10J at h; rwa [h1, h2, h3, if_neg Bool.false_ne_true, if_neg Bool.false_ne_true, if_neg Bool.false_ne_true] at h
theorem g10J.at1 (h : g10J Z K ks vs Q ls W) (h1 : ls 11 = false) (h2 : ls 10 = false) (h3 : ls 4 = true) : W = g10A Z K := by unfold g10J at h; rwa [h1, h2, h3, if_neg Bool.false_ne_true, if_neg Bool.false_ne_true, if_pos rfl] at h
theorem g10J.at2 (h : g10J Z K ks vs Q ls W) (h1 : ls 11 = false) (h2 : ls 10 = true) : W = g10B Z K ks vs := by unfold g10J at h; rwa [h1, h2, if_neg Bool.false_ne_true, if_pos rfl] at h
theorem g10J.at3 (h : g10J Z K ks vs Q ls W) (h1 : ls 11 = true) : Q W := by unfold g10J at h; rwa [h1, if_pos rfl] at h
theorem g10J.to1 (h1 : ls 11 = false) (h2 : ls 10 = false) : g10J Z K ks vs Q (updB ls 4) (g10A Z K) := by
  unfold g10J; rw [updB_other ls (by decide : 11 ≠ 4), updB_other ls (by decide : 10 ≠ 4), h1, h2, updB_at, if_neg Bool.false_ne_true, if_neg Bool.false_ne_true, if_pos rfl]
theorem g10J.to2 (h1 : ls 11 = false) : g10J Z K ks vs Q (updB ls 10) (g10B Z K ks vs) := by
  unfold g10J; rw [updB_other ls (by decide : 11 ≠ 10), h1, updB_at, if_neg Bool.false_ne_true, if_pos rfl]
theorem g10J.to3 (hq : Q W) : g10J Z K ks vs Q (updB ls 11) W := by
  unfold g10J; rw [updB_at, if_pos rfl]; exact hq
end

set_option maxRecDepth 100000 in
set_option maxHeartbeats 4000000 in
theorem goesOn_walk (A : Option Addr) (n c : Nat) (l : List UInt8) (w : World) (hl : Hold w A n c l) (hn : n ≤ 281474976710656) : Calls Try.prog 5 #[.slice A n c] w fun e w' => e = .returned (.bool true) ∧ Below w.heap.size w w' := by
  have HN := Lib.hid (new_mine w w 10 (Below.refl _ _))
  have HL := Lib.hid hl
  clear hl
  go_enter Try.func5, Try.ntmps5
  go_wp2_with fail
  refine HN.out.mono ?_
  rintro e1 w1 ⟨g, rfl, hm1, hb1, hg1⟩
  have hm1' : Mine w w1 g (newSt 10) := hm1
  have HO := Lib.hid (open_new hm1' (by omega))
  clear hm1 hm1' hb1 HN
  go_wp2_with (go_at_call 9; refine HO.out.mono ?_; rintro e2 w2 ⟨sb, cb, rfl, hx2, ho2, hsb⟩; have HX2 := Lib.hid hx2; clear hx2 ho2 HO)
  refine (awake_any w2).mono ?_
  rintro e3 w3 ⟨rfl, hb3⟩
  have HX3 := Lib.hid (HX2.out.below hb3)
  clear hb3 HX2
  go_wp2_with fail
  have hal : Below w3.heap.size w3 (w3.alloc (.cells #[.string ⟨#[]⟩, .string ⟨#[]⟩, .string ⟨#[]⟩, .string ⟨#[]⟩] 54)) := (Below.refl _ _).alloc (Nat.le_refl _) _
  have hi : GoI w sb cb g w3.heap.size 0 (fun _ => none) (w3.alloc (.cells #[.string ⟨#[]⟩, .string ⟨#[]⟩, .string ⟨#[]⟩, .string ⟨#[]⟩] 54)) :=
    ⟨⟨newX 10, 0, 0, 0, HX3.out.below hal, newX_inv (by omega), rfl⟩, fun n v h => (by cases h), heap_alloc_new w3 _, HX3.out.b.size⟩
  have HI := Lib.hid hi
  clear hal hi HX3
  generalize w3.alloc (.cells #[.string ⟨#[]⟩, .string ⟨#[]⟩, .string ⟨#[]⟩, .string ⟨#[]⟩] 54) = W at *
  generalize w3.heap.size = hb at *
  go_loopg [6, 7, 8, 9, 10] n (fun kx v6 _ _ _ _ wr => ∃ (i : Nat) (o : Nat → Option ByteArray), v6 = .int .i64 (i : Int) ∧ i ≤ n ∧ i ≤ 300 ∧ n - i ≤ kx ∧ Aside (GoI w sb cb g hb i o wr))
  case atStart => exact ⟨0, fun _ => none, rfl, Nat.zero_le _, by omega, by omega, (HI.out : Aside _)⟩
  case round =>
    clear HI
    obtain ⟨i, o, rfl, hin, hi3, hkx, HI⟩ := hrel
    have hend : Calls Try.prog 5 #[.slice A n c] w (fun e w' => e = .returned (.bool true) ∧ Below w.heap.size w w') → True := fun _ => trivial
    clear hend
    by_cases hlt : i < n ∧ i < 300
    · obtain ⟨hlt1, hlt2⟩ := hlt
      have hz1 : (i : Int) < (n : Int) := by omega
      have hz2 : (i : Int) < 300 := by omega
      have pz : (0 : Int) ≤ (i : Int) := by omega
      obtain ⟨x, a, en, cn, hx, _, _⟩ := HI.out.ex
      obtain ⟨bb, off, hkl, rfl, hc⟩ := (HL.out.below hx.b).at (k := i) hlt1
      have hcb := (l[i]).toNat_lt
      generalize (l[i]).toNat = b at *
      clear hx
      obtain ⟨k, hk⟩ : ∃ k, k = b % 4 := ⟨_, rfl⟩
      obtain ⟨p, hp⟩ : ∃ p, p = b % 10 := ⟨_, rfl⟩
      obtain ⟨q, hq⟩ : ∃ q, q = b % 26 := ⟨_, rfl⟩
      have hk4 : k < 4 := by omega
      have hp10 : p < 10 := by omega
      have hq26 : q < 26 := by omega
      have hkz : (b : Int) % 4 = (k : Int) := by omega
      have hpz : (b : Int) % 10 = (p : Int) := by omega
      have hqz : (b : Int) % 26 = (q : Int) := by omega
      obtain ⟨X, hX⟩ : ∃ X : UInt8, (X.toNat : Int) = 48 + (p : Int) := ⟨UInt8.ofNat (48 + p), by rw [UInt8.toNat_ofNat']; omega⟩
      obtain ⟨Y, hY⟩ : ∃ Y : UInt8, (Y.toNat : Int) = 97 + (q : Int) := ⟨UInt8.ofNat (97 + q), by rw [UInt8.toNat_ofNat']; omega⟩
      clear hk hp hq
      go_wp2_with fail
      have HP : Hid ((b : Int).tmod 10 = (p : Int)) := Lib.hid (by rw [Int.tmod_eq_emod_of_nonneg (by omega)]; exact hpz)
      have HQ : Hid ((b : Int).tmod 26 = (q : Int)) := Lib.hid (by rw [Int.tmod_eq_emod_of_nonneg (by omega)]; exact hqz)
      have HXW : Hid (IntKind.u8.wrap (X.toNat : Int) = (X.toNat : Int)) := Lib.hid (by rw [IntKind.wrap_u8]; have := X.toNat_lt; omega)
      have HYW : Hid (IntKind.u8.wrap (Y.toNat : Int) = (Y.toNat : Int)) := Lib.hid (by rw [IntKind.wrap_u8]; have := Y.toNat_lt; omega)
      have HX : Hid ((48 : Int) + (p : Int) = (X.toNat : Int)) := Lib.hid hX.symm
      have HY : Hid ((97 : Int) + (q : Int) = (Y.toNat : Int)) := Lib.hid hY.symm
      clear hpz hqz hX hY hkz
      obtain ⟨V, hV⟩ : ∃ V, V = wr.drew := ⟨_, rfl⟩
      have hbV : Below wr.heap.size wr V := by rw [hV]; exact (Below.refl _ _).drew
      have hbl : bb < wr.heap.size := World.block_lt_of_cell? wr _ hc
      have hcV := (hbV.cell (p := ⟨bb, off + i, none⟩) hbl).trans hc
      have hxV := (hbV.block hb (Array.getElem?_eq_some_iff.1 HI.out.bx).1).trans HI.out.bx
      have hbA : Below V.heap.size V (g9A V X Y) := (Below.refl _ _).alloc (Nat.le_refl _) _
      have hxA := (hbA.block hb (Array.getElem?_eq_some_iff.1 hxV).1).trans hxV
      have hbb : bb ≠ hb := fun e => by
        subst e
        have := hcV
        rw [cell_of_row V bb _ _ _ _ hxV] at this
        have hmm := Array.mem_of_getElem? this
        simp [strs] at hmm
      have hcc : ∀ ls, (g9W V hb k X Y ls).cell? ⟨bb, off + i, none⟩ = some (.int .u8 (b : Int)) := fun ls => by
        have hA := (hbA.cell (p := ⟨bb, off + i, none⟩) (World.block_lt_of_cell? V _ hcV)).trans hcV
        unfold g9W
        split
        · unfold g9B
          exact (set_grown (g9A V X Y) hb k _).cell hA (fun e => hbb (Option.some.inj e))
        · split
          · exact hA
          · exact hcV
      have HCC := Lib.hid hcc
      have HV := Lib.hid hV
      have HXA := Lib.hid hxA
      have HBA : Hid ((g9A V X Y).cell? ⟨hb, k, none⟩ = some (.string (hasO (o k)))) := Lib.hid (by
        rw [cell_of_row _ hb k _ _ _ hxA]
        rcases (show k = 0 ∨ k = 1 ∨ k = 2 ∨ k = 3 by omega) with rfl | rfl | rfl | rfl <;> rfl)
      have HFA : Hid ((g9A V X Y).frozen? ⟨hb, k, none⟩ = false) := Lib.hid (by simp [World.frozen?, hxA])
      clear hV hbV hcV hxV hbA hxA hbb hcc hc
      refine wp_region_chain (g9V bb off i n c k hb V.heap.size b p q X Y) (g9W V hb k X Y) (by kernel_rfl) (by kernel_rfl) HV.out ?_ ?_
      · refine ⟨?_, ?_, ?_, ?_, ?_, ?_, ?_, ?_, ?_, ?_, ?_, ?_, ?_, ?_, ?_, ?_, ?_, ?_, trivial⟩
        · intro y ls hcl hi hd hoff hf
          left
          refine ⟨rfl, ?_⟩
          have e0 : y.tmps.getD 7 undef = .int .i64 (k : Int) := hoff.slot 7 (no_dst (by kernel_rfl))
          go_simp
          exact ⟨rfl, (g9W_keep (i := 0) (by decide) (by decide)).symm⟩
        · intro y ls hcl hi hd hoff hf
          left
          refine ⟨rfl, ?_⟩
          have e0 : y.tmps.getD 0 undef = .slice (some ⟨bb, off, none⟩) n c := hoff.slot 0 (no_dst (by kernel_rfl))
          go_simp
          exact ⟨rfl, (g9W_keep (i := 1) (by decide) (by decide)).symm⟩
        · intro y ls hcl hi hd hoff hf
          left
          refine ⟨rfl, ?_⟩
          have e0 : y.tmps.getD 6 undef = .int .i64 (i : Int) := hoff.slot 6 (no_dst (by kernel_rfl))
          go_simp
          exact ⟨rfl, (g9W_keep (i := 2) (by decide) (by decide)).symm⟩
        · intro y ls hcl hi hd hoff hf
          left
          refine ⟨rfl, ?_⟩
          have e0 : y.tmps.getD 43 undef = .slice (some ⟨bb, off, none⟩) n c := hf 1 _ (hd 1 rfl) rfl
          have e1 : y.tmps.getD 44 undef = .int .i64 (i : Int) := hf 2 _ (hd 2 rfl) rfl
          go_simp
          exact ⟨rfl, (g9W_keep (i := 3) (by decide) (by decide)).symm⟩
        · intro y ls hcl hi hd hoff hf
          left
          refine ⟨rfl, ?_⟩
          have e0 : y.tmps.getD 45 undef = .pointer (some ⟨bb, off + i, none⟩) := hf 3 _ (hd 3 rfl) rfl
          have hcc := HCC.out ls
          go_simp
          exact ⟨rfl, (g9W_keep (i := 4) (by decide) (by decide)).symm⟩
        · intro y ls hcl hi hd hoff hf
          left
          refine ⟨rfl, ?_⟩
          have e0 : y.tmps.getD 46 undef = .int .u8 (b : Int) := hf 4 _ (hd 4 rfl) rfl
          have hp := HP.out
          go_simp
          exact ⟨rfl, (g9W_keep (i := 5) (by decide) (by decide)).symm⟩
        · intro y ls hcl hi hd hoff hf
          left
          refine ⟨rfl, ?_⟩
          have e0 : y.tmps.getD 47 undef = .int .u8 (p : Int) := hf 5 _ (hd 5 rfl) rfl
          have hX := HX.out
          have hXW := HXW.out
          go_simp
          exact ⟨rfl, (g9W_keep (i := 6) (by decide) (by decide)).symm⟩
        · intro y ls hcl hi hd hoff hf
          left
          refine ⟨rfl, ?_⟩
          have e0 : y.tmps.getD 0 undef = .slice (some ⟨bb, off, none⟩) n c := hoff.slot 0 (no_dst (by kernel_rfl))
          go_simp
          exact ⟨rfl, (g9W_keep (i := 7) (by decide) (by decide)).symm⟩
        · intro y ls hcl hi hd hoff hf
          left
          refine ⟨rfl, ?_⟩
          have e0 : y.tmps.getD 6 undef = .int .i64 (i : Int) := hoff.slot 6 (no_dst (by kernel_rfl))
          go_simp
          exact ⟨rfl, (g9W_keep (i := 8) (by decide) (by decide)).symm⟩
        · intro y ls hcl hi hd hoff hf
          left
          refine ⟨rfl, ?_⟩
          have e0 : y.tmps.getD 49 undef = .slice (some ⟨bb, off, none⟩) n c := hf 7 _ (hd 7 rfl) rfl
          have e1 : y.tmps.getD 50 undef = .int .i64 (i : Int) := hf 8 _ (hd 8 rfl) rfl
          go_simp
          exact ⟨rfl, (g9W_keep (i := 9) (by decide) (by decide)).symm⟩
        · intro y ls hcl hi hd hoff hf
          left
          refine ⟨rfl, ?_⟩
          have e0 : y.tmps.getD 51 undef = .pointer (some ⟨bb, off + i, none⟩) := hf 9 _ (hd 9 rfl) rfl
          have hcc := HCC.out ls
          go_simp
          exact ⟨rfl, (g9W_keep (i := 10) (by decide) (by decide)).symm⟩
        · intro y ls hcl hi hd hoff hf
          left
          refine ⟨rfl, ?_⟩
          have e0 : y.tmps.getD 52 undef = .int .u8 (b : Int) := hf 10 _ (hd 10 rfl) rfl
          have hq := HQ.out
          go_simp
          exact ⟨rfl, (g9W_keep (i := 11) (by decide) (by decide)).symm⟩
        · intro y ls hcl hi hd hoff hf
          left
          refine ⟨rfl, ?_⟩
          have e0 : y.tmps.getD 53 undef = .int .u8 (q : Int) := hf 11 _ (hd 11 rfl) rfl
          have hY := HY.out
          have hYW := HYW.out
          go_simp
          exact ⟨rfl, (g9W_keep (i := 12) (by decide) (by decide)).symm⟩
        · intro y ls hcl hi hd hoff hf
          left
          refine ⟨rfl, ?_⟩
          have e0 : y.tmps.getD 48 undef = .int .u8 (X.toNat : Int) := hf 6 _ (hd 6 rfl) rfl
          have e1 : y.tmps.getD 54 undef = .int .u8 (Y.toNat : Int) := hf 12 _ (hd 12 rfl) rfl
          rw [Array.getD_eq_getD_getElem?] at e0 e1
          have h17 : ls 17 = false := by
            have h14 : ls 14 = false := hcl.no hi rfl rfl
            have h15 : ls 15 = false := hcl.no h14 rfl rfl
            exact hcl.no h15 rfl rfl
          rw [g9W_1 (ls := updB ls 13) (by rw [updB_other ls (by decide)]; exact h17) (updB_at ls 13), g9W_0 h17 hi]
          go_simp
          exact ⟨rfl, rfl⟩
        · intro y ls hcl hi hd hoff hf
          left
          refine ⟨rfl, ?_⟩
          have e0 : y.tmps.getD 55 undef = .slice (some ⟨V.heap.size, 0, none⟩) 2 2 := hf 13 _ (hd 13 rfl) rfl
          have h17 : ls 17 = false := by
            have h15 : ls 15 = false := hcl.no hi rfl rfl
            exact hcl.no h15 rfl rfl
          have h13 : ls 13 = true := hd 13 rfl
          have hcv := conv_new [X, Y] V V.heap.size 2 rfl rfl
          rw [g9W_keep (i := 14) (by decide) (by decide), g9W_1 h17 h13]
          unfold g9A
          change (convert 43 9 (.slice (some ⟨V.heap.size, 0, none⟩) 2 2)).run Try.prog (V.alloc (.cells #[.int .u8 (X.toNat : Int), .int .u8 (Y.toNat : Int)] 5)) = .ok (.string ⟨#[X, Y]⟩) (V.alloc (.cells #[.int .u8 (X.toNat : Int), .int .u8 (Y.toNat : Int)] 5)) at hcv
          go_simp
          first | exact ⟨rfl, rfl⟩ | rfl
        · intro y ls hcl hi hd hoff hf
          left
          refine ⟨rfl, ?_⟩
          have e0 : y.tmps.getD 56 undef = .string ⟨#[X, Y]⟩ := hf 14 _ (hd 14 rfl) rfl
          go_simp
          exact ⟨rfl, (g9W_keep (i := 15) (by decide) (by decide)).symm⟩
        · intro y ls hcl hi hd hoff hf
          left
          refine ⟨rfl, ?_⟩
          have e0 : y.tmps.getD 5 undef = .pointer (some ⟨hb, 0, none⟩) := hoff.slot 5 (no_dst (by kernel_rfl))
          have e1 : y.tmps.getD 42 undef = .int .i64 (k : Int) := hf 0 _ (hd 0 rfl) rfl
          have hk4z : (k : Int) < 4 := by omega
          go_simp
          exact ⟨rfl, (g9W_keep (i := 16) (by decide) (by decide)).symm⟩
        · intro y ls hcl hi hd hoff hf
          left
          refine ⟨rfl, ?_⟩
          have e0 : y.tmps.getD 58 undef = .pointer (some ⟨hb, k, none⟩) := hf 16 _ (hd 16 rfl) rfl
          have e1 : y.tmps.getD 57 undef = .string (⟨#[118]⟩ ++ ⟨#[X, Y]⟩) := hf 15 _ (hd 15 rfl) rfl
          have h13 : ls 13 = true := hcl 14 _ rfl (hcl 15 _ rfl (hd 15 rfl) 14 rfl) 13 rfl
          rw [g9W_2 (ls := updB ls 17) (updB_at ls 17), g9W_1 hi h13]
          unfold g9B
          have hbA := HBA.out
          have hfA := HFA.out
          generalize g9A V X Y = Y9 at *
          go_simp
          first | exact ⟨rfl, rfl⟩ | rfl | skip
      · intro y ls hl hoff hf
        rw [g9W_2 (hl 17 (by decide))]
        obtain ⟨ys, hys, ha⟩ := off_form hoff (mask := [false, false, false, false, false, false, false, false, false, false, false, false, false, false, false, false, false, false, false, false, false, false, false, false, false, false, false, false, false, false, false, false, false, false, false, false, false, false, false, false, false, false, true, true, true, true, true, true, true, true, true, true, true, true, true, true, true, true, true, false, false, false, false, false, false, false, false, false, false, false, false, false, false, false, false, false, false, false, false, false, false, false, false, false, false, false, false, false, false, false, false]) (by kernel_rfl)
        subst ha
        simp only [fillFrom, Nat.zero_add, Nat.reduceAdd] at *
        clear hys hoff hf hl
        rename_i hKK
        refine hKK _ _ ?_
        clear hKK
        have hchg : Chg (fun b => b = hb) (g9A V X Y) (g9B V hb k X Y) := (Chg.refl (fun b => b = hb) (g9A V X Y)).setCell (p := ⟨hb, k, none⟩) (.inl rfl) _
        obtain ⟨x, a, en, cn, hx, hiv, hP⟩ := HI.out.ex
        have hbZ : Below wr.heap.size wr (g9A V X Y) := by rw [HV.out]; exact (Below.refl _ _).drew.alloc (Nat.le_refl _) _
        have hxZ := (hx.below hbZ).chg HXA.out (by decide) (by decide) (by decide) (by decide) (by decide) (by decide) hchg HI.out.lo
        have hbxZ : (g9B V hb k X Y).heap[hb]? = some (.cells (strs (updO o k (⟨#[118]⟩ ++ ⟨#[X, Y]⟩))) 54 (0, 0)) := by
          unfold g9B
          rw [heap_setCell_at HXA.out, strs_upd o k hk4]
        obtain ⟨vs, hvs⟩ : ∃ vs : ByteArray, vs = ⟨#[118]⟩ ++ ⟨#[X, Y]⟩ := ⟨_, rfl⟩
        have hvz : vs.size = 3 := by rw [hvs]; exact vS_size X Y
        rw [← hvs] at hbxZ
        obtain ⟨K, hK1, hK2⟩ : ∃ K : UInt8, (K.toNat : Int) = 97 + (k : Int) ∧ keyN k = ⟨#[K]⟩ := by
          rcases (show k = 0 ∨ k = 1 ∨ k = 2 ∨ k = 3 by omega) with rfl | rfl | rfl | rfl
          · exact ⟨97, rfl, rfl⟩
          · exact ⟨98, rfl, rfl⟩
          · exact ⟨99, rfl, rfl⟩
          · exact ⟨100, rfl, rfl⟩
        obtain ⟨hsz, hft⟩ := go_sized HI.out.sh k hk4 hvz
        rw [← hP] at hsz hft
        have HXZ := Lib.hid hxZ
        have HBX := Lib.hid hbxZ
        have HIV := Lib.hid hiv
        have HPP := Lib.hid hP
        have HSZ := Lib.hid hsz
        have HFT := Lib.hid hft
        have HKN := Lib.hid hK2
        have HKK : Hid ((97 : Int) + (k : Int) = (K.toNat : Int)) := Lib.hid hK1.symm
        have HKW : Hid (IntKind.u8.wrap (K.toNat : Int) = (K.toNat : Int)) := Lib.hid (by rw [IntKind.wrap_u8]; have := K.toNat_lt; omega)
        have HK5 : Hid (IntKind.u8.wrap (k : Int) = (k : Int)) := Lib.hid (by rw [IntKind.wrap_u8]; omega)
        have HSH := Lib.hid (HI.out.sh.upd k hvz)
        have hlo := HI.out.lo
        clear hchg hx hiv hP hbZ hxZ hbxZ hvs hvz hK1 hK2 hsz hft HXA HCC HV HBA HFA HXW HYW HP HQ HX HY HI
        generalize g9B V hb k X Y = Z0 at *
        go_wp2_with fail
        obtain ⟨Z, hZ⟩ : ∃ Z, Z = Z0.drew := ⟨_, rfl⟩
        have hbZ : Below Z0.heap.size Z0 Z := by rw [hZ]; exact (Below.refl _ _).drew
        have HZ := Lib.hid hZ
        have HX1 := Lib.hid (HXZ.out.below hbZ)
        have HB1 := Lib.hid ((hbZ.block hb (Array.getElem?_eq_some_iff.1 HBX.out).1).trans HBX.out)
        clear hZ hbZ HXZ HBX
        refine wp_region_stepsA (g10F sb hb k Z.heap.size K (keyN k) vs) (fun ls _ W => g10J Z K (keyN k) vs (fun W => GoI w sb cb g hb (i + 1) (updO o k vs) W) ls W) (by kernel_rfl) (by kernel_rfl) (by show Z0.drew = Z; exact HZ.out.symm) ?_ ?_
        · refine ⟨?_, ?_, ?_, ?_, ?_, ?_, ?_, ?_, ?_, ?_, ?_, ?_, ?_, trivial⟩
          · intro y W ls hJJ hi hcl hd hoff hf
            left
            refine ⟨rfl, ?_⟩
            have e0 : y.tmps.getD 3 undef = .pointer (some ⟨sb, 0, none⟩) := hoff.slot 3 (no_dst (by kernel_rfl))
            go_simp
            exact ⟨_, rfl, rfl, hJJ.keep (i := 0) (by decide) (by decide) (by decide)⟩
          · intro y W ls hJJ hi hcl hd hoff hf
            left
            refine ⟨rfl, ?_⟩
            have e0 : y.tmps.getD 7 undef = .int .i64 (k : Int) := hoff.slot 7 (no_dst (by kernel_rfl))
            go_simp
            exact ⟨_, rfl, rfl, hJJ.keep (i := 1) (by decide) (by decide) (by decide)⟩
          · intro y W ls hJJ hi hcl hd hoff hf
            left
            refine ⟨rfl, ?_⟩
            have e0 : y.tmps.getD 60 undef = .int .i64 (k : Int) := hf 1 _ (hd 1 rfl) rfl
            have hk5 := HK5.out
            go_simp
            exact ⟨_, rfl, rfl, hJJ.keep (i := 2) (by decide) (by decide) (by decide)⟩
          · intro y W ls hJJ hi hcl hd hoff hf
            left
            refine ⟨rfl, ?_⟩
            have e0 : y.tmps.getD 61 undef = .int .u8 (k : Int) := hf 2 _ (hd 2 rfl) rfl
            have hkk := HKK.out
            have hkw := HKW.out
            go_simp
            exact ⟨_, rfl, rfl, hJJ.keep (i := 3) (by decide) (by decide) (by decide)⟩
          · intro y W ls hJJ hi hcl hd hoff hf
            left
            refine ⟨rfl, ?_⟩
            have e0 : y.tmps.getD 62 undef = .int .u8 (K.toNat : Int) := hf 3 _ (hd 3 rfl) rfl
            rw [Array.getD_eq_getD_getElem?] at e0
            have h5 : ls 5 = false := hcl.no hi rfl rfl
            have h9 : ls 9 = false := hcl.no h5 rfl rfl
            have h10 : ls 10 = false := hcl.no h9 rfl rfl
            have h11 : ls 11 = false := hcl.no h10 rfl rfl
            obtain rfl := hJJ.at0 h11 h10 hi
            go_simp
            exact ⟨_, rfl, rfl, g10J.to1 h11 h10⟩
          · intro y W ls hJJ hi hcl hd hoff hf
            left
            refine ⟨rfl, ?_⟩
            have e0 : y.tmps.getD 63 undef = .slice (some ⟨Z.heap.size, 0, none⟩) 1 1 := hf 4 _ (hd 4 rfl) rfl
            have h9 : ls 9 = false := hcl.no hi rfl rfl
            have h10 : ls 10 = false := hcl.no h9 rfl rfl
            have h11 : ls 11 = false := hcl.no h10 rfl rfl
            have hWW := hJJ.at1 h11 h10 (hd 4 rfl)
            have hcv := conv_new [K] Z Z.heap.size 1 rfl rfl
            rw [hWW] at hJJ ⊢
            change (convert 43 9 (.slice (some ⟨Z.heap.size, 0, none⟩) 1 1)).run Try.prog (g10A Z K) = .ok (.string ⟨#[K]⟩) (g10A Z K) at hcv
            rw [← HKN.out] at hcv
            clear hWW
            generalize g10A Z K = Z9 at *
            go_simp
            exact ⟨_, rfl, rfl, hJJ.keep (i := 5) (by decide) (by decide) (by decide)⟩
          · intro y W ls hJJ hi hcl hd hoff hf
            left
            refine ⟨rfl, ?_⟩
            have e0 : y.tmps.getD 7 undef = .int .i64 (k : Int) := hoff.slot 7 (no_dst (by kernel_rfl))
            go_simp
            exact ⟨_, rfl, rfl, hJJ.keep (i := 6) (by decide) (by decide) (by decide)⟩
          · intro y W ls hJJ hi hcl hd hoff hf
            left
            refine ⟨rfl, ?_⟩
            have e0 : y.tmps.getD 5 undef = .pointer (some ⟨hb, 0, none⟩) := hoff.slot 5 (no_dst (by kernel_rfl))
            have e1 : y.tmps.getD 65 undef = .int .i64 (k : Int) := hf 6 _ (hd 6 rfl) rfl
            have hk4z : (k : Int) < 4 := by omega
            go_simp
            exact ⟨_, rfl, rfl, hJJ.keep (i := 7) (by decide) (by decide) (by decide)⟩
          · intro y W ls hJJ hi hcl hd hoff hf
            left
            refine ⟨rfl, ?_⟩
            have e0 : y.tmps.getD 66 undef = .pointer (some ⟨hb, k, none⟩) := hf 7 _ (hd 7 rfl) rfl
            have h9 : ls 9 = false := hcl.no hi rfl rfl
            have h10 : ls 10 = false := hcl.no h9 rfl rfl
            have h11 : ls 11 = false := hcl.no h10 rfl rfl
            have hcl0 : W.cell? ⟨hb, k, none⟩ = some (.string vs) := by
              have hz : Z.cell? ⟨hb, k, none⟩ = some (.string vs) := by
                rw [cell_of_row _ hb k _ _ _ HB1.out, ← strs_upd o k hk4]
                have : k < (strs o).size := hk4
                simp [this]
              cases h4 : ls 4 with
              | false => rw [hJJ.at0 h11 h10 h4]; exact hz
              | true => rw [hJJ.at1 h11 h10 h4]; exact (((Below.refl Z.heap.size Z).alloc (Nat.le_refl _) _).cell (p := ⟨hb, k, none⟩) (Array.getElem?_eq_some_iff.1 HB1.out).1).trans hz
            go_simp
            exact ⟨_, rfl, rfl, hJJ.keep (i := 8) (by decide) (by decide) (by decide)⟩
          · intro y W ls hJJ hi hcl hd hoff hf
            left
            refine ⟨rfl, ?_⟩
            have e0 : y.tmps.getD 64 undef = .string (keyN k) := hf 5 _ (hd 5 rfl) rfl
            have e1 : y.tmps.getD 67 undef = .string vs := hf 8 _ (hd 8 rfl) rfl
            rw [Array.getD_eq_getD_getElem?] at e0 e1
            go_simp
            exact ⟨_, rfl, rfl, hJJ.keep (i := 9) (by decide) (by decide) (by decide)⟩
          · intro y W ls hJJ hi hcl hd hoff hf
            left
            refine ⟨rfl, ?_⟩
            have e0 : y.tmps.getD 68 undef = .agg #[.string (keyN k), .string vs, .bool false] := hf 9 _ (hd 9 rfl) rfl
            rw [Array.getD_eq_getD_getElem?] at e0
            have h11 : ls 11 = false := hcl.no hi rfl rfl
            have h4 : ls 4 = true := hcl 5 _ rfl (hcl 9 _ rfl (hd 9 rfl) 5 rfl) 4 rfl
            have hWW := hJJ.at1 h11 hi h4
            rw [hWW]
            have hsz1 : (g10A Z K).heap.size = Z.heap.size + 1 := by unfold g10A; simp
            go_simp
            exact ⟨_, rfl, rfl, g10J.to2 h11⟩
          · intro y W ls hJJ hi hcl hd hoff hf
            left
            refine ⟨rfl, ?_⟩
            have e0 : y.tmps.getD 59 undef = .pointer (some ⟨sb, 0, none⟩) := hf 0 _ (hd 0 rfl) rfl
            have e1 : y.tmps.getD 69 undef = .slice (some ⟨Z.heap.size + 1, 0, none⟩) 1 1 := hf 10 _ (hd 10 rfl) rfl
            have hWW := hJJ.at2 hi (hd 10 rfl)
            subst hWW
            go_simp
            have hb2 : Below Z.heap.size Z (g10B Z K (keyN k) vs) := ((Below.refl _ _).alloc (Nat.le_refl _) _).alloc (by simp) _
            have hh := HC.new (g10A Z K) [⟨keyN k, vs, false⟩] #[.string (keyN k), .string vs, .bool false] rfl (Z.heap.size + 1) 1 (by unfold g10A; simp) rfl
            refine (Commit_up (HX1.out.below hb2) HIV.out (by omega) (by omega) [⟨keyN k, vs, false⟩] HSZ.out (.inr HFT.out) _ _ _ hh).mono ?_
            rintro e W2 ⟨rfl, x', a', en', cn', hm', hi', hP', ho'⟩
            exact ⟨_, rfl, rfl, g10J.to3 ⟨⟨x', a', en', cn', hm', hi', by rw [hP', HPP.out, PP_upd o k hk4]⟩, HSH.out, ho'.2 hb _ 54 (0, 0) ((hb2.block hb (Array.getElem?_eq_some_iff.1 HB1.out).1).trans HB1.out) (by decide) (by decide) (by decide) (by decide) (by decide) (by decide), hlo⟩⟩
          · intro y W ls hJJ hi hcl hd hoff hf
            left
            refine ⟨rfl, ?_⟩
            have e0 : y.tmps.getD 70 undef = .int .i64 0 := hf 11 _ (hd 11 rfl) rfl
            go_simp
            exact ⟨_, rfl, rfl, hJJ.keep (i := 12) (by decide) (by decide) (by decide)⟩
        · intro y W ls hl hJJ hoff hf
          have e71 : y.tmps.getD 71 undef = .bool false := hf 12 _ rfl
          have hgo := hJJ.at3 (hl 11 (by decide))
          obtain ⟨ys, hys, ha⟩ := off_form hoff (mask := [false, false, false, false, false, false, false, false, false, false, false, false, false, false, false, false, false, false, false, false, false, false, false, false, false, false, false, false, false, false, false, false, false, false, false, false, false, false, false, false, false, false, false, false, false, false, false, false, false, false, false, false, false, false, false, false, false, false, false, true, true, true, true, true, true, true, true, true, true, true, true, true, false, false, false, false, false, false, false, false, false, false, false, false, false, false, false, false, false, false, false]) (by kernel_rfl)
          rw [hys] at e71
          subst ha
          simp only [fillFrom, Nat.zero_add, Nat.reduceAdd] at *
          rw [e71]
          have HG := Lib.hid hgo
          clear e71 hys hoff hf hl hJJ hgo HX1 HB1 HIV HPP HSZ HFT
          rename_i hKK
          refine hKK _ _ ?_
          clear hKK
          go_wp2_with fail
          obtain ⟨o', ho'⟩ : ∃ o', o' = updO o k vs := ⟨_, rfl⟩
          rw [← ho'] at HG
          clear ho' HSH HKN HKK HKW HK5 HZ
          go_loopg [8, 9, 10] 4 (fun ky v8 _ _ wr => ∃ (n2 : Nat), v8 = .int .i64 (n2 : Int) ∧ n2 ≤ 4 ∧ 4 - n2 ≤ ky ∧ Aside (GoI w sb cb g hb (i + 1) o' wr))
          case atStart => exact ⟨0, rfl, by omega, by omega, (HG.out : Aside _)⟩
          case round =>
            clear HG
            obtain ⟨n2, rfl, hn4, hky, HG⟩ := hrel
            by_cases hl4 : n2 < 4
            · obtain ⟨x2, a2, en2, cn2, hx2, hi2, hP2⟩ := HG.out.ex
              have hval := PP_val o' n2 hl4
              have hbx2 := HG.out.bx
              have hlen2 : x2.P.length < 4611686018427387904 := by rw [hP2]; have := (PP_len HG.out.sh).2.1; omega
              rcases (show n2 = 0 ∨ n2 = 1 ∨ n2 = 2 ∨ n2 = 3 by omega) with rfl | rfl | rfl | rfl
              · have hal : Below wr.heap.size wr (wr.alloc (.cells #[.int .u8 97] 5)) := (Below.refl _ _).alloc (Nat.le_refl _) _
                have hcv : (convert 43 9 (.slice (some ⟨wr.heap.size, 0, none⟩) 1 1)).run Try.prog (wr.alloc (.cells #[.int .u8 97] 5)) = .ok (.string ⟨#[97]⟩) (wr.alloc (.cells #[.int .u8 97] 5)) := conv_new [97] wr wr.heap.size 1 rfl rfl
                have hge := Get_any w _ sb cb g x2 (hx2.below hal) hi2.asc hlen2 ⟨#[97]⟩
                have hv2 : (valOf x2.P (⟨#[97]⟩ : ByteArray).data.toList).1 = hasO (o' 0) := by rw [hP2]; exact hval
                rw [hv2] at hge
                have hbx3 := (hal.block hb (Array.getElem?_eq_some_iff.1 hbx2).1).trans hbx2
                have hcell : ∀ W, Below (wr.alloc (.cells #[.int .u8 97] 5)).heap.size (wr.alloc (.cells #[.int .u8 97] 5)) W → W.cell? ⟨hb, 0, none⟩ = some (.string (hasO (o' 0))) := fun W hb' => by
                  rw [cell_of_row _ hb 0 _ _ _ ((hb'.block hb (Array.getElem?_eq_some_iff.1 hbx3).1).trans hbx3)]
                  rfl
                have hgo : ∀ W, Below (wr.alloc (.cells #[.int .u8 97] 5)).heap.size (wr.alloc (.cells #[.int .u8 97] 5)) W → GoI w sb cb g hb (i + 1) o' W := fun W hb' => ⟨⟨x2, a2, en2, cn2, (hx2.below hal).below hb', hi2, hP2⟩, HG.out.sh, (hb'.block hb (Array.getElem?_eq_some_iff.1 hbx3).1).trans hbx3, HG.out.lo⟩
                generalize (valOf x2.P (⟨#[97]⟩ : ByteArray).data.toList).2 = isv at *
                have HGE := Lib.hid hge
                have HCE := Lib.hid hcell
                have HGO := Lib.hid hgo
                clear hal hge hv2 hbx3 hcell hgo hbx2 hval hx2 hi2 hP2 hlen2 HG
                generalize hasO (o' 0) = vv at *
                go_wp2_with (go_at_call 20; refine HGE.out.mono ?_; rintro e W9 ⟨rfl, hb9⟩; have hce := HCE.out W9 hb9; have HG9 := Lib.hid (HGO.out W9 hb9); clear hb9 HGE HCE HGO)
                go_roundg (4 - 1)
                case measure => omega
                case rel => exact ⟨1, rfl, by omega, Nat.le_refl _, (HG9.out : Aside _)⟩
              · have hal : Below wr.heap.size wr (wr.alloc (.cells #[.int .u8 98] 5)) := (Below.refl _ _).alloc (Nat.le_refl _) _
                have hcv : (convert 43 9 (.slice (some ⟨wr.heap.size, 0, none⟩) 1 1)).run Try.prog (wr.alloc (.cells #[.int .u8 98] 5)) = .ok (.string ⟨#[98]⟩) (wr.alloc (.cells #[.int .u8 98] 5)) := conv_new [98] wr wr.heap.size 1 rfl rfl
                have hge := Get_any w _ sb cb g x2 (hx2.below hal) hi2.asc hlen2 ⟨#[98]⟩
                have hv2 : (valOf x2.P (⟨#[98]⟩ : ByteArray).data.toList).1 = hasO (o' 1) := by rw [hP2]; exact hval
                rw [hv2] at hge
                have hbx3 := (hal.block hb (Array.getElem?_eq_some_iff.1 hbx2).1).trans hbx2
                have hcell : ∀ W, Below (wr.alloc (.cells #[.int .u8 98] 5)).heap.size (wr.alloc (.cells #[.int .u8 98] 5)) W → W.cell? ⟨hb, 1, none⟩ = some (.string (hasO (o' 1))) := fun W hb' => by
                  rw [cell_of_row _ hb 1 _ _ _ ((hb'.block hb (Array.getElem?_eq_some_iff.1 hbx3).1).trans hbx3)]
                  rfl
                have hgo : ∀ W, Below (wr.alloc (.cells #[.int .u8 98] 5)).heap.size (wr.alloc (.cells #[.int .u8 98] 5)) W → GoI w sb cb g hb (i + 1) o' W := fun W hb' => ⟨⟨x2, a2, en2, cn2, (hx2.below hal).below hb', hi2, hP2⟩, HG.out.sh, (hb'.block hb (Array.getElem?_eq_some_iff.1 hbx3).1).trans hbx3, HG.out.lo⟩
                generalize (valOf x2.P (⟨#[98]⟩ : ByteArray).data.toList).2 = isv at *
                have HGE := Lib.hid hge
                have HCE := Lib.hid hcell
                have HGO := Lib.hid hgo
                clear hal hge hv2 hbx3 hcell hgo hbx2 hval hx2 hi2 hP2 hlen2 HG
                generalize hasO (o' 1) = vv at *
                go_wp2_with (go_at_call 20; refine HGE.out.mono ?_; rintro e W9 ⟨rfl, hb9⟩; have hce := HCE.out W9 hb9; have HG9 := Lib.hid (HGO.out W9 hb9); clear hb9 HGE HCE HGO)
                go_roundg (4 - 2)
                case measure => omega
                case rel => exact ⟨2, rfl, by omega, Nat.le_refl _, (HG9.out : Aside _)⟩
              · have hal : Below wr.heap.size wr (wr.alloc (.cells #[.int .u8 99] 5)) := (Below.refl _ _).alloc (Nat.le_refl _) _
                have hcv : (convert 43 9 (.slice (some ⟨wr.heap.size, 0, none⟩) 1 1)).run Try.prog (wr.alloc (.cells #[.int .u8 99] 5)) = .ok (.string ⟨#[99]⟩) (wr.alloc (.cells #[.int .u8 99] 5)) := conv_new [99] wr wr.heap.size 1 rfl rfl
                have hge := Get_any w _ sb cb g x2 (hx2.below hal) hi2.asc hlen2 ⟨#[99]⟩
                have hv2 : (valOf x2.P (⟨#[99]⟩ : ByteArray).data.toList).1 = hasO (o' 2) := by rw [hP2]; exact hval
                rw [hv2] at hge
                have hbx3 := (hal.block hb (Array.getElem?_eq_some_iff.1 hbx2).1).trans hbx2
                have hcell : ∀ W, Below (wr.alloc (.cells #[.int .u8 99] 5)).heap.size (wr.alloc (.cells #[.int .u8 99] 5)) W → W.cell? ⟨hb, 2, none⟩ = some (.string (hasO (o' 2))) := fun W hb' => by
                  rw [cell_of_row _ hb 2 _ _ _ ((hb'.block hb (Array.getElem?_eq_some_iff.1 hbx3).1).trans hbx3)]
                  rfl
                have hgo : ∀ W, Below (wr.alloc (.cells #[.int .u8 99] 5)).heap.size (wr.alloc (.cells #[.int .u8 99] 5)) W → GoI w sb cb g hb (i + 1) o' W := fun W hb' => ⟨⟨x2, a2, en2, cn2, (hx2.below hal).below hb', hi2, hP2⟩, HG.out.sh, (hb'.block hb (Array.getElem?_eq_some_iff.1 hbx3).1).trans hbx3, HG.out.lo⟩
                generalize (valOf x2.P (⟨#[99]⟩ : ByteArray).data.toList).2 = isv at *
                have HGE := Lib.hid hge
                have HCE := Lib.hid hcell
                have HGO := Lib.hid hgo
                clear hal hge hv2 hbx3 hcell hgo hbx2 hval hx2 hi2 hP2 hlen2 HG
                generalize hasO (o' 2) = vv at *
                go_wp2_with (go_at_call 20; refine HGE.out.mono ?_; rintro e W9 ⟨rfl, hb9⟩; have hce := HCE.out W9 hb9; have HG9 := Lib.hid (HGO.out W9 hb9); clear hb9 HGE HCE HGO)
                go_roundg (4 - 3)
                case measure => omega
                case rel => exact ⟨3, rfl, by omega, Nat.le_refl _, (HG9.out : Aside _)⟩
              · have hal : Below wr.heap.size wr (wr.alloc (.cells #[.int .u8 100] 5)) := (Below.refl _ _).alloc (Nat.le_refl _) _
                have hcv : (convert 43 9 (.slice (some ⟨wr.heap.size, 0, none⟩) 1 1)).run Try.prog (wr.alloc (.cells #[.int .u8 100] 5)) = .ok (.string ⟨#[100]⟩) (wr.alloc (.cells #[.int .u8 100] 5)) := conv_new [100] wr wr.heap.size 1 rfl rfl
                have hge := Get_any w _ sb cb g x2 (hx2.below hal) hi2.asc hlen2 ⟨#[100]⟩
                have hv2 : (valOf x2.P (⟨#[100]⟩ : ByteArray).data.toList).1 = hasO (o' 3) := by rw [hP2]; exact hval
                rw [hv2] at hge
                have hbx3 := (hal.block hb (Array.getElem?_eq_some_iff.1 hbx2).1).trans hbx2
                have hcell : ∀ W, Below (wr.alloc (.cells #[.int .u8 100] 5)).heap.size (wr.alloc (.cells #[.int .u8 100] 5)) W → W.cell? ⟨hb, 3, none⟩ = some (.string (hasO (o' 3))) := fun W hb' => by
                  rw [cell_of_row _ hb 3 _ _ _ ((hb'.block hb (Array.getElem?_eq_some_iff.1 hbx3).1).trans hbx3)]
                  rfl
                have hgo : ∀ W, Below (wr.alloc (.cells #[.int .u8 100] 5)).heap.size (wr.alloc (.cells #[.int .u8 100] 5)) W → GoI w sb cb g hb (i + 1) o' W := fun W hb' => ⟨⟨x2, a2, en2, cn2, (hx2.below hal).below hb', hi2, hP2⟩, HG.out.sh, (hb'.block hb (Array.getElem?_eq_some_iff.1 hbx3).1).trans hbx3, HG.out.lo⟩
                generalize (valOf x2.P (⟨#[100]⟩ : ByteArray).data.toList).2 = isv at *
                have HGE := Lib.hid hge
                have HCE := Lib.hid hcell
                have HGO := Lib.hid hgo
                clear hal hge hv2 hbx3 hcell hgo hbx2 hval hx2 hi2 hP2 hlen2 HG
                generalize hasO (o' 3) = vv at *
                go_wp2_with (go_at_call 20; refine HGE.out.mono ?_; rintro e W9 ⟨rfl, hb9⟩; have hce := HCE.out W9 hb9; have HG9 := Lib.hid (HGO.out W9 hb9); clear hb9 HGE HCE HGO)
                go_roundg (4 - 4)
                case measure => omega
                case rel => exact ⟨4, rfl, by omega, Nat.le_refl _, (HG9.out : Aside _)⟩
            · obtain rfl : n2 = 4 := by omega
              go_wp2_with fail
              go_roundg (n - (i + 1))
              case measure => omega
              case rel => exact ⟨i + 1, o', by go_num, by omega, by omega, Nat.le_refl _, HG⟩
    · have hor : ¬ (i : Int) < (n : Int) ∨ ¬ (i : Int) < 300 := by omega
      have hB : Below w.heap.size w wr := by
        obtain ⟨x, a, en, cn, hx, _, _⟩ := HI.out.ex
        exact hx.b
      have HB := Lib.hid hB
      clear hB hlt
      by_cases h1 : (i : Int) < (n : Int)
      · have h2 : ¬ (i : Int) < 300 := hor.resolve_left (fun h => h h1)
        clear hor
        go_wp2_with fail
        go_ret
        exact ⟨rfl, HB.out⟩
      · clear hor
        go_wp2_with fail
        go_ret
        exact ⟨rfl, HB.out⟩
end Go.Proofs.Ytbfhlleipeipbaa
