/-
  What is proved: rows of marks and attributes in memory, one place of which is changed. Conditions: those in each statement.
-/
import Derived.Test.YtbokcihlbpeagaaDoorKc
namespace Go.Proofs.YtbokcihlbpeagaaDoor
open Go.RowKit

theorem splice_mid (P Q : List Value) (x v : Value) : splice (P ++ x :: Q) P.length [v] = P ++ v :: Q := by
  unfold splice
  simp
theorem own_set {w : World} {B : Nat} {e : TypeId} {z g n cap : Nat} {xs : List Value} (h : w.ownsRow B e z (.slice (some ⟨g, 0, none⟩) n cap) n xs) (P Q : List Value) (x v : Value) (hx : xs = P ++ x :: Q) :
    (w.setCells g P.length [v]).ownsRow B e z (.slice (some ⟨g, 0, none⟩) n cap) n (P ++ v :: Q) := by
  have hl := h.1
  obtain ⟨cur, hg, hB⟩ := own_at h (b := g) rfl
  have h0 := own_setCells (show w.ownsRow 0 e z (.slice (some ⟨g, 0, none⟩) n cap) n xs from ⟨h.1, by
    rcases h.2 with h1 | ⟨g', c', cu, h1, _, h2⟩
    · exact .inl h1
    · exact .inr ⟨g', c', cu, h1, Nat.zero_le _, h2⟩⟩) P.length [v] (by rw [← hl, hx]; simp)
  rw [hx, splice_mid] at h0
  rcases h0.2 with ⟨h1, _⟩ | ⟨g', cap', cur', h1, _, h2⟩
  · cases h1
  · injection h1 with h3 _ h4
    injection h3 with h5
    injection h5 with h6
    subst h6
    exact ⟨h0.1, .inr ⟨g, cap', cur', by rw [h4], hB, h2⟩⟩
def At3.to (x : Nat) (a : At3) : At3 := { a with at_ := x }
theorem AR.set {w : World} {B q n c : Nat} {P Q : List At3} {a : At3} (h : AR w B (.slice (some ⟨q, 0, none⟩) n c) (P ++ a :: Q)) (x : Nat) :
    AR (w.setCells q (P.length * 3 + 2) [.int .i64 (x : Int)]) B (.slice (some ⟨q, 0, none⟩) n c) (P ++ a.to x :: Q) := by
  unfold AR at h ⊢
  have hn : n = (P ++ a :: Q).length := by
    rcases h.2 with ⟨h1, _⟩ | ⟨_, _, _, h1, _⟩
    · cases h1
    · injection h1
  subst hn
  have e1 : atCells (P ++ a :: Q) = (atCells P ++ [Value.string ⟨a.name.toArray⟩, Value.string ⟨a.value.toArray⟩]) ++ Value.int .i64 (a.at_ : Int) :: atCells Q := by simp [atCells, atC]
  have e2 : atCells (P ++ a.to x :: Q) = (atCells P ++ [Value.string ⟨a.name.toArray⟩, Value.string ⟨a.value.toArray⟩]) ++ Value.int .i64 (x : Int) :: atCells Q := by simp [atCells, atC, At3.to]
  have e3 : (atCells P ++ [Value.string ⟨a.name.toArray⟩, Value.string ⟨a.value.toArray⟩]).length = P.length * 3 + 2 := by rw [List.length_append, atCells_length]; rfl
  have := own_set h _ _ _ (.int .i64 (x : Int)) e1
  rw [e3, ← e2] at this
  have hl : (P ++ a.to x :: Q).length = (P ++ a :: Q).length := by simp
  rw [hl]
  exact this
/-- a mark's own place is changed -/
theorem MR.set {w : World} {B g n c : Nat} {A D : List (Mk × Value)} {m : Mk} {u : Value} (h : MR w B (.slice (some ⟨g, 0, none⟩) n c) (A ++ (m, u) :: D)) (x : Nat) :
    MR (w.setCells g (A.length * 6 + 5) [.int .i64 (x : Int)]) B (.slice (some ⟨g, 0, none⟩) n c) (A ++ ({ m with at_ := x }, u) :: D) := by
  have hr := h.row
  have hn : n = (A ++ (m, u) :: D).length := by
    rcases hr.2 with ⟨h1, _⟩ | ⟨_, _, _, h1, _⟩
    · cases h1
    · injection h1
  subst hn
  obtain ⟨gc, hg, _⟩ := own_at hr (b := g) rfl
  have e1 : mkCells (A ++ (m, u) :: D) = (mkCells A ++ [Value.int .i64 (m.kind : Int), Value.string ⟨m.name.toArray⟩, u, .bool m.empty, .string ⟨m.text.toArray⟩]) ++ Value.int .i64 (m.at_ : Int) :: mkCells D := by simp [mkCells, mkC]
  have e2 : mkCells (A ++ ({ m with at_ := x }, u) :: D) = (mkCells A ++ [Value.int .i64 (m.kind : Int), Value.string ⟨m.name.toArray⟩, u, .bool m.empty, .string ⟨m.text.toArray⟩]) ++ Value.int .i64 (x : Int) :: mkCells D := by simp [mkCells, mkC]
  have e3 : (mkCells A ++ [Value.int .i64 (m.kind : Int), Value.string ⟨m.name.toArray⟩, u, .bool m.empty, .string ⟨m.text.toArray⟩]).length = A.length * 6 + 5 := by rw [List.length_append, mkCells_length]; rfl
  have h1 := own_set hr _ _ _ (.int .i64 (x : Int)) e1
  rw [e3, ← e2] at h1
  have hl : (A ++ ({ m with at_ := x }, u) :: D).length = (A ++ (m, u) :: D).length := by simp
  have hk : ∀ (b : Nat) (cur : Array Value), w.heap[b]? = some (Obj.cells cur 32 (0, 0)) → (w.setCells g (A.length * 6 + 5) [.int .i64 (x : Int)]).heap[b]? = w.heap[b]? := by
    intro b cur hb
    refine heap_setCells_other g b ?_ _ _ _
    rintro rfl
    rw [hg] at hb
    cases hb
  refine ⟨by rw [hl]; exact h1, ?_, ?_⟩
  · intro z hz
    have : ∃ z' ∈ A ++ (m, u) :: D, z'.2 = z.2 ∧ z'.1.attrs = z.1.attrs := by
      simp only [List.mem_append, List.mem_cons] at hz ⊢
      rcases hz with hz | rfl | hz
      · exact ⟨z, .inl hz, rfl, rfl⟩
      · exact ⟨(m, u), .inr (.inl rfl), rfl, rfl⟩
      · exact ⟨z, .inr (.inr hz), rfl, rfl⟩
    obtain ⟨z', hz', k1, k2⟩ := this
    rw [← k1, ← k2]
    exact AR.keep (h.att z' hz') fun b cur _ hb => hk b cur hb
  · have := h.apart
    rw [List.pairwise_append, List.pairwise_cons] at this ⊢
    refine ⟨this.1, this.2.1, ?_⟩
    intro a ha b hb
    simp only [List.mem_cons] at hb
    rcases hb with rfl | hb
    · exact this.2.2 a ha (m, u) (by simp)
    · exact this.2.2 a ha b (by simp [hb])
/-- the place of one attribute of a mark is changed -/
theorem MR.setAttr {w : World} {B q k c' : Nat} {v : Value} {A D : List (Mk × Value)} {m : Mk} {P Q : List At3} {a : At3}
    (h : MR w B v (A ++ (m, .slice (some ⟨q, 0, none⟩) k c') :: D)) (hm : m.attrs = P ++ a :: Q) (x : Nat) :
    MR (w.setCells q (P.length * 3 + 2) [.int .i64 (x : Int)]) B v (A ++ ({ m with attrs := P ++ a.to x :: Q }, .slice (some ⟨q, 0, none⟩) k c') :: D) := by
  have ha : AR w B (.slice (some ⟨q, 0, none⟩) k c') m.attrs := h.att (m, .slice (some ⟨q, 0, none⟩) k c') (by simp)
  obtain ⟨qc, hq, _⟩ := own_at ha (b := q) rfl
  have hap := h.apart
  rw [List.pairwise_append, List.pairwise_cons] at hap
  refine ⟨?_, ?_, ?_⟩
  · have hr := h.row
    have e : mkCells (A ++ ({ m with attrs := P ++ a.to x :: Q }, Value.slice (some ⟨q, 0, none⟩) k c') :: D) = mkCells (A ++ (m, .slice (some ⟨q, 0, none⟩) k c') :: D) := by simp [mkCells, mkC]
    have hl : (A ++ ({ m with attrs := P ++ a.to x :: Q }, Value.slice (some ⟨q, 0, none⟩) k c') :: D).length = (A ++ (m, Value.slice (some ⟨q, 0, none⟩) k c') :: D).length := by simp
    rw [e, hl]
    refine own_keepG hr fun b hb => heap_setCells_other q b ?_ _ _ _
    rintro rfl
    obtain ⟨cur, h1, _⟩ := own_at hr hb
    rw [hq] at h1
    cases h1
  · have other : ∀ z : Mk × Value, AR w B z.2 z.1.attrs → (z.2.ownBlock = none ∨ z.2.ownBlock ≠ some q) → AR (w.setCells q (P.length * 3 + 2) [.int .i64 (x : Int)]) B z.2 z.1.attrs := by
      intro z hz hd
      refine own_keepG hz fun b hb => heap_setCells_other q b ?_ _ _ _
      rintro rfl
      rcases hd with hd | hd
      · rw [hd] at hb; cases hb
      · exact hd hb
    intro z hz
    simp only [List.mem_append, List.mem_cons] at hz
    rcases hz with hz | rfl | hz
    · refine other z (h.att z (by simp [hz])) ?_
      have := hap.2.2 z hz (m, .slice (some ⟨q, 0, none⟩) k c') (by simp)
      exact this
    · rw [hm] at ha
      exact AR.set ha x
    · refine other z (h.att z (by simp [hz])) ?_
      have := hap.2.1.1 z hz
      rcases this with h1 | h1
      · cases h1
      · exact .inr (Ne.symm h1)
  · rw [List.pairwise_append, List.pairwise_cons]
    refine ⟨hap.1, hap.2.1, ?_⟩
    intro a' ha' b hb
    simp only [List.mem_cons] at hb
    rcases hb with rfl | hb
    · exact hap.2.2 a' ha' (m, .slice (some ⟨q, 0, none⟩) k c') (by simp)
    · exact hap.2.2 a' ha' b (by simp [hb])
end Go.Proofs.YtbokcihlbpeagaaDoor
