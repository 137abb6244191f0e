/-
  What is proved: plain mathematics: the places of what is read lie in the document, or at its end. Conditions: those in each statement.
-/
import Derived.Test.YtbokcihlbpeagaaDoorKa
import Derived.Test.YtbokcihlbpeagaaDoorKd
namespace Go.Proofs.YtbokcihlbpeagaaDoor
open Go.RowKit

section
variable {α : Type} {stop : List UInt8 → Bool} {step : Nat → List UInt8 → Out α}
theorem loop_mem (G : Good stop step) : ∀ (n : Nat) (l : List UInt8), l.length = n → ∀ (k : Nat) (zs : List α) (m : Nat), loop stop step k l = .ok zs m → ∀ z ∈ zs, ∃ k' l' j, k' + l'.length ≤ k + l.length ∧ step k' l' = .ok z j := by
  intro n
  induction n using Nat.strongRecOn with
  | ind n ih =>
    intro l hn k zs m h z hz
    by_cases hs : stop l = true
    · rw [loop_stop _ hs] at h; cases h; cases hz
    · have hf : stop l = false := by simpa using hs
      cases hq : step k l with
      | ok a j =>
        have hg := G k l a j hf hq
        rw [loop_ok G hf hq] at h
        cases hr : loop stop step (k + j) (l.drop j) with
        | ok bs i =>
          rw [hr] at h
          simp only [Out.pres] at h
          injection h with h1 h2
          subst h1
          rcases List.mem_append.1 hz with h3 | h3
          · obtain rfl := List.mem_singleton.1 h3
            exact ⟨k, l, j, Nat.le_refl _, hq⟩
          · obtain ⟨k', l', j', h4, h5⟩ := ih (l.drop j).length (by rw [List.length_drop]; omega) _ rfl _ _ _ hr z h3
            rw [List.length_drop] at h4
            exact ⟨k', l', j', by omega, h5⟩
        | bad d c => rw [hr] at h; cases h
        | un => rw [hr] at h; cases h
      | bad d c => rw [loop_bad hf hq] at h; cases h
      | un => rw [loop_un hf hq] at h; cases h
end
def Mk.upto (L : Nat) (m : Mk) : Prop := m.at_ ≤ L ∧ ∀ a ∈ m.attrs, a.at_ ≤ L
theorem Mk.upto.mono {L M : Nat} {m : Mk} (h : m.upto L) (hl : L ≤ M) : m.upto M := ⟨Nat.le_trans h.1 hl, fun a ha => Nat.le_trans (h.2 a ha) hl⟩
theorem attrO_at {k : Nat} {l : List UInt8} {a : At3} {n : Nat} (h : attrO k l = .ok a n) : a.at_ = k := by
  unfold attrO at h
  obtain ⟨_, _, _, _, h, _⟩ := Out.seq_ok h
  obtain ⟨_, _, _, _, h, _⟩ := Out.seq_ok h
  obtain ⟨_, _, _, _, h, _⟩ := Out.seq_ok h
  obtain ⟨_, _, _, _, h, _⟩ := Out.seq_ok h
  obtain ⟨_, _, rfl⟩ := Out.map_ok h
  rfl
theorem stepA_at {k : Nat} {l : List UInt8} {a : At3} {n : Nat} (h : stepA k l = .ok a n) : a.at_ ≤ k + l.length := by
  unfold stepA at h
  split at h
  · exact absurd h wrongO_ok
  · obtain ⟨_, h, _⟩ := Out.on_ok h
    have := attrO_at h
    have := wh_le l
    omega
theorem startO_at {f k : Nat} {l : List UInt8} {m : Mk} {n : Nat} (h : startO f k l = .ok m n) (hf : f ≤ k + l.length) : m.upto (k + l.length) := by
  unfold startO at h
  obtain ⟨_, i, _, hn, h, _⟩ := Out.seq_ok h
  obtain ⟨zs, _, _, hl, h, _⟩ := Out.seq_ok h
  obtain ⟨_, _, rfl⟩ := Out.map_ok h
  refine ⟨hf, fun a ha => ?_⟩
  obtain ⟨k', l', j, h1, h2⟩ := loop_mem goodA _ _ rfl _ _ _ hl a ha
  have := stepA_at h2
  have := nameO_le hn
  rw [List.length_drop] at h1
  omega
theorem stepD_at {k : Nat} {l : List UInt8} {m : Mk} {n : Nat} (h : stepD k l = .ok (some m) n) : m.upto (k + l.length) := by
  unfold stepD at h
  split at h
  · obtain ⟨_, h, _⟩ := Out.on_ok h
    obtain ⟨_, _, h⟩ := Out.map_ok h
    cases h
  split at h
  · obtain ⟨_, h, _⟩ := Out.on_ok h
    unfold cdataO at h
    obtain ⟨_, _, h⟩ := Out.map_ok h
    split at h
    · cases h
    · cases h; exact ⟨Nat.le_add_right _ _, by simp⟩
  split at h
  · obtain ⟨_, h, _⟩ := Out.on_ok h
    obtain ⟨_, h, h2⟩ := Out.map_ok h
    cases h2
    unfold endO at h
    obtain ⟨_, _, _, _, h, _⟩ := Out.seq_ok h
    obtain ⟨_, _, _, _, h, _⟩ := Out.seq_ok h
    obtain ⟨_, _, rfl⟩ := Out.map_ok h
    exact ⟨Nat.le_add_right _ _, by simp⟩
  split at h
  · rename_i hp
    have hp := prefix_len hp
    obtain ⟨_, h, _⟩ := Out.on_ok h
    obtain ⟨_, h, h2⟩ := Out.map_ok h
    cases h2
    have := startO_at h (by omega)
    rw [List.length_drop] at this
    simp only [List.length_cons, List.length_nil] at hp
    exact this.mono (by omega)
  · obtain ⟨_, _, h2⟩ := Out.map_ok h
    cases h2
    exact ⟨Nat.le_add_right _ _, by simp⟩
theorem marksO_at {l : List UInt8} {ms : List Mk} {n : Nat} (h : marksO l = .ok ms n) : ∀ m ∈ ms, m.upto l.length := by
  unfold marksO at h
  obtain ⟨_, i, _, hd, h1, _⟩ := Out.seq_ok h
  obtain ⟨zs, h2, h3⟩ := Out.map_ok h1
  subst h3
  clear h h1
  intro m hm
  rw [List.mem_filterMap] at hm
  obtain ⟨x, hx, rfl⟩ := hm
  unfold docO at h2
  obtain ⟨k', l', j, h1, h2⟩ := loop_mem goodD _ _ rfl _ _ _ h2 _ hx
  have h3 := stepD_at (Out.fin_ok h2)
  have hi : i ≤ l.length := by
    have := Out.fin_ok hd
    unfold declO at this
    split at this
    · obtain ⟨_, h5, _⟩ := Out.map_ok this
      exact (upO_le h5).2
    · cases this; omega
  rw [List.length_drop] at h1
  exact h3.mono (by omega)
theorem resO_at {l : List UInt8} {ms : List Mk} (h : resO l = .inl ms) : (∀ m ∈ ms, m.upto l.length) ∧ l.length ≤ 65536 := by
  unfold resO at h
  cases hc : chkO l with
  | some x => rw [hc] at h; cases h
  | none =>
    rw [hc] at h
    simp only at h
    have hl : l.length ≤ 65536 := by
      unfold chkO at hc
      split at hc
      · cases hc
      · omega
    cases hm : marksO l with
    | ok ns n => rw [hm] at h; cases h; exact ⟨marksO_at hm, hl⟩
    | bad d c => rw [hm] at h; cases h
    | un => rw [hm] at h; cases h

/-! ### moved back -/
def At3.bk (a : At3) : At3 := a.to (a.at_ - 14)
def Mk.bk (m : Mk) : Mk := { m with attrs := m.attrs.map At3.bk, at_ := m.at_ - 14 }
theorem At3.bk_mv (a : At3) : (a.mv 14).bk = a := by unfold At3.bk At3.mv At3.to; simp
theorem Mk.bk_mv (m : Mk) : (m.mv 14).bk = m := by
  unfold Mk.bk Mk.mv
  have : (At3.bk ∘ At3.mv 14) = id := by funext a; exact At3.bk_mv a
  simp [this]
theorem bk_all (ms : List Mk) : (ms.map (Mk.mv 14)).map Mk.bk = ms := by
  rw [List.map_map]
  have : (Mk.bk ∘ Mk.mv 14) = id := by funext a; exact Mk.bk_mv a
  rw [this]; simp
def bk1 (z : Mk × Value) : Mk × Value := (z.1.bk, z.2)
/-- the first i marks moved back -/
def rowI (zs : List (Mk × Value)) (i : Nat) : List (Mk × Value) := (zs.take i).map bk1 ++ zs.drop i
/-- and of the next one its place, and its first k attributes -/
def rowK (zs : List (Mk × Value)) (i k : Nat) (z : Mk × Value) : List (Mk × Value) :=
  (zs.take i).map bk1 ++ ({ z.1 with attrs := (z.1.attrs.take k).map At3.bk ++ z.1.attrs.drop k, at_ := z.1.at_ - 14 }, z.2) :: zs.drop (i + 1)
theorem rowI_zero (zs : List (Mk × Value)) : rowI zs 0 = zs := by simp [rowI]
theorem rowI_at {zs : List (Mk × Value)} {i : Nat} (h : i < zs.length) : rowI zs i = (zs.take i).map bk1 ++ (zs[i].1, zs[i].2) :: zs.drop (i + 1) := by
  unfold rowI
  rw [List.drop_eq_getElem_cons h]
theorem rowI_full (zs : List (Mk × Value)) : rowI zs zs.length = zs.map bk1 := by simp [rowI]
theorem rowK_zero (zs : List (Mk × Value)) (i : Nat) (z : Mk × Value) : rowK zs i 0 z = (zs.take i).map bk1 ++ ({ z.1 with at_ := z.1.at_ - 14 }, z.2) :: zs.drop (i + 1) := by simp [rowK]
theorem rowK_full {zs : List (Mk × Value)} {i : Nat} (h : i < zs.length) : rowK zs i zs[i].1.attrs.length zs[i] = rowI zs (i + 1) := by
  unfold rowK rowI
  rw [List.take_succ_eq_append_getElem h, List.map_append, List.append_assoc]
  simp [bk1, Mk.bk]
theorem rowK_end (zs : List (Mk × Value)) (i : Nat) {k : Nat} {m : Mk} {u : Value} (h : m.attrs.length = k) : rowK zs i k (m, u) = (zs.take i).map bk1 ++ ({ m with attrs := m.attrs.map At3.bk, at_ := m.at_ - 14 }, u) :: zs.drop (i + 1) := by
  subst h
  simp [rowK]
theorem rowK_split {zs : List (Mk × Value)} {i k : Nat} {z : Mk × Value} (h : k < z.1.attrs.length) : rowK zs i k z = (zs.take i).map bk1 ++ ({ z.1 with attrs := (z.1.attrs.take k).map At3.bk ++ z.1.attrs[k] :: z.1.attrs.drop (k + 1), at_ := z.1.at_ - 14 }, z.2) :: zs.drop (i + 1) := by
  unfold rowK
  rw [List.drop_eq_getElem_cons h]
theorem rowK_next {zs : List (Mk × Value)} {i k : Nat} {z : Mk × Value} (h : k < z.1.attrs.length) : (zs.take i).map bk1 ++ ({ z.1 with attrs := (z.1.attrs.take k).map At3.bk ++ (z.1.attrs[k]).to (z.1.attrs[k].at_ - 14) :: z.1.attrs.drop (k + 1), at_ := z.1.at_ - 14 }, z.2) :: zs.drop (i + 1) = rowK zs i (k + 1) z := by
  unfold rowK
  rw [List.take_succ_eq_append_getElem h, List.map_append, List.append_assoc]
  rfl

/-! ### in memory -/
theorem own_slice3 {w : World} {B : Nat} {e : TypeId} {z : Nat} {v : Value} {n : Nat} {xs : List Value} (h : w.ownsRow B e z v n xs) : ∃ A m c, v = .slice A m c := by
  obtain ⟨A, c, e⟩ := own_slice h
  exact ⟨A, n, c, e⟩
theorem own_len {w : World} {B : Nat} {e : TypeId} {z : Nat} {A : Option Addr} {m c n : Nat} {xs : List Value} (h : w.ownsRow B e z (.slice A m c) n xs) : m = n := by
  obtain ⟨A', c', e⟩ := own_slice h
  injection e
theorem MR.elemA {w : World} {B : Nat} {v : Value} {A D : List (Mk × Value)} {m : Mk} {u : Value} (h : MR w B v (A ++ (m, u) :: D)) : ∃ g c, v = .slice (some ⟨g, 0, none⟩) (A ++ (m, u) :: D).length c ∧ g < w.heap.size ∧ Elem6 w g A.length m u ∧ AR w B u m.attrs := by
  have := h.elem (j := A.length) (by simp)
  simpa using this
theorem AR.elemA {w : World} {B : Nat} {v : Value} {A D : List At3} {a : At3} (h : AR w B v (A ++ a :: D)) : ∃ g c, v = .slice (some ⟨g, 0, none⟩) (A ++ a :: D).length c ∧ g < w.heap.size ∧
    w.cell? ⟨g, A.length * 3, none⟩ = some (.string ⟨a.name.toArray⟩) ∧ w.cell? ⟨g, A.length * 3 + 1, none⟩ = some (.string ⟨a.value.toArray⟩) ∧ w.cell? ⟨g, A.length * 3 + 2, none⟩ = some (.int .i64 (a.at_ : Int)) := by
  have := AR.elem h (j := A.length) (by simp)
  simpa using this
theorem MR.geB {w : World} {B g n c : Nat} {zs : List (Mk × Value)} (h : MR w B (.slice (some ⟨g, 0, none⟩) n c) zs) : B ≤ g := by
  obtain ⟨_, _, h2⟩ := own_at h.row (b := g) rfl
  exact h2
theorem MR.frz {w : World} {B g n c j : Nat} {zs : List (Mk × Value)} (h : MR w B (.slice (some ⟨g, 0, none⟩) n c) zs) : w.frozen? ⟨g, j, none⟩ = false := by
  obtain ⟨_, h1, _⟩ := own_at h.row (b := g) rfl
  exact Lib.frozen_of_heap h1 j
theorem AR.geB {w : World} {B g n c : Nat} {l : List At3} (h : AR w B (.slice (some ⟨g, 0, none⟩) n c) l) : B ≤ g := by
  obtain ⟨_, _, h2⟩ := own_at h (b := g) rfl
  exact h2
theorem AR.frz {w : World} {B g n c j : Nat} {l : List At3} (h : AR w B (.slice (some ⟨g, 0, none⟩) n c) l) : w.frozen? ⟨g, j, none⟩ = false := by
  obtain ⟨_, h1, _⟩ := own_at h (b := g) rfl
  exact Lib.frozen_of_heap h1 j
theorem MR.max {w : World} {B : Nat} {v : Value} {zs : List (Mk × Value)} (h : MR w B v zs) : zs.length ≤ 9223372036854775807 := by
  rcases h.row.2 with ⟨_, h1⟩ | ⟨_, cap, _, _, _, _, h1, h2, _⟩
  · omega
  · exact Nat.le_trans h1 (Nat.le_trans h2 (by unfold maxLen; decide))
theorem MR.below {w w' : World} {B : Nat} {v : Value} {zs : List (Mk × Value)} (h : MR w B v zs) (hb : Below w.heap.size w w') : MR w' B v zs :=
  h.keep fun b _ _ _ _ he => hb.block b (heap_lt he)
end Go.Proofs.YtbokcihlbpeagaaDoor
