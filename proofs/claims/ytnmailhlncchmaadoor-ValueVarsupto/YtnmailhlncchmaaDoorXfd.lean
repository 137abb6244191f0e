/-
  What is proved: lists of declarations in memory: what a slice of them reads as (HD), an element's cells, such a list that comes in. Conditions: those in each statement.
-/
import Derived.Test.YtnmailhlncchmaaDoorXko
import Derived.Test.YtnmailhlncchmaaDoorXl
namespace Go.Proofs.YtnmailhlncchmaaDoor
open Go.ChangeShapes Go.WideShapes Go.ChangeAt Go.RowKit Go.Lib

/-- a declaration -/
structure Dc where
  nm : ByteArray
  kd : Int
def encD (x : Dc) : List Value := [.string x.nm, .int .i64 x.kd]
def rwD (l : List Dc) : List Value := (l.map encD).flatten
theorem rwD_cons (x : Dc) (l : List Dc) : rwD (x :: l) = encD x ++ rwD l := rfl
theorem rwD_append (a b : List Dc) : rwD (a ++ b) = rwD a ++ rwD b := by unfold rwD; rw [List.map_append, List.flatten_append]
theorem rwD_length (l : List Dc) : (rwD l).length = l.length * 2 := by
  induction l with
  | nil => rfl
  | cons x l ih => rw [rwD_cons, List.length_append, ih, List.length_cons]; show 2 + _ = _; omega
theorem rwD_one (l : List Dc) : ∀ v ∈ rwD l, v.oneCell' = true := fun v hv => by
  obtain ⟨x, hx, hv⟩ := List.mem_flatten.1 hv
  obtain ⟨c, _, rfl⟩ := List.mem_map.1 hx
  simp only [encD, List.mem_cons, List.not_mem_nil, or_false] at hv
  rcases hv with rfl | rfl <;> rfl
theorem rwD_get (l : List Dc) (i : Nat) (hi : i < l.length) (j : Nat) (hj : j < 2) : (rwD l)[i * 2 + j]? = (encD l[i])[j]? := by
  induction l generalizing i with
  | nil => simp at hi
  | cons x l ih =>
    rw [rwD_cons]
    cases i with
    | zero =>
      rw [List.getElem?_append_left (by show 0 * 2 + j < 2; omega), Nat.zero_mul, Nat.zero_add]; rfl
    | succ i =>
      rw [List.getElem?_append_right (by show 2 ≤ _; omega), show (i + 1) * 2 + j - (encD x).length = i * 2 + j by show (i + 1) * 2 + j - 2 = _; omega]
      exact ih i (by simpa using hi)
/-- the slice value .slice A n c reads as the declarations l -/
def HD (w : World) (A : Option Addr) (n c : Nat) (l : List Dc) : Prop :=
  l.length = n ∧ n ≤ c ∧ (0 < n → ∃ b o, A = some ⟨b, o, none⟩ ∧ b < w.heap.size ∧ ∀ j u, (rwD l)[j]? = some u → w.cell? ⟨b, o + j, none⟩ = some u)
theorem HD.nil (w : World) (A : Option Addr) (c : Nat) : HD w A 0 c [] := ⟨rfl, Nat.zero_le _, fun h => absurd h (Nat.lt_irrefl _)⟩
theorem HD.below {w w' : World} {A : Option Addr} {n c : Nat} {l : List Dc} (h : HD w A n c l) (hb : Below w.heap.size w w') : HD w' A n c l :=
  ⟨h.1, h.2.1, fun hn => by
    obtain ⟨b, o, hA, hlt, hH⟩ := h.2.2 hn
    exact ⟨b, o, hA, Nat.lt_of_lt_of_le hlt hb.size, fun j u hj => (hb.cell (p := ⟨b, o + j, none⟩) hlt).trans (hH j u hj)⟩⟩
theorem HD.elem {w : World} {A : Option Addr} {n c : Nat} {l : List Dc} (h : HD w A n c l) (i : Nat) (hi : i < l.length) : ∃ b o, A = some ⟨b, o, none⟩ ∧ b < w.heap.size ∧
    w.cell? ⟨b, o + i * 2, none⟩ = some (.string l[i].nm) ∧ w.cell? ⟨b, o + i * 2 + 1, none⟩ = some (.int .i64 l[i].kd) := by
  obtain ⟨b, o, hA, hlt, hH⟩ := h.2.2 (by rw [← h.1]; omega)
  refine ⟨b, o, hA, hlt, ?_, ?_⟩
  · exact hH (i * 2) _ ((rwD_get l i hi 0 (by omega)).trans rfl)
  · exact (congrArg (fun k => w.cell? ⟨b, k, none⟩) (Nat.add_assoc o (i * 2) 1)).trans (hH (i * 2 + 1) _ ((rwD_get l i hi 1 (by omega)).trans rfl))
/-- one declaration, from its two cells -/
theorem open_dc {H : Type} {enc : TypeId × Value → H} {W : World} {n : Nat} {cs : List Value} {x : DataW H × List MemPlace} (hlen : cs.length = 2) (h : DataW.trod enc Tryd.prog W 0 (fun _ => true) true n 44 cs = some x) :
    ∃ y : Dc, cs = encD y := by
  obtain ⟨xs, k, _, hx', _, hxl, hf⟩ := DataW.trod_struct Tryd.underlying44 h
  obtain ⟨v0, v1, rfl⟩ := two_ofV cs hlen
  obtain ⟨y0, y1, rfl⟩ := two_ofV xs (by simpa using hxl)
  have c9 : Tryd.prog.cellsOf 9 = 1 := by kernel_rfl
  have c3 : Tryd.prog.cellsOf 3 = 1 := by kernel_rfl
  have g0 := hf 0 _ rfl
  have g1 := hf 1 _ rfl
  obtain ⟨a0, e0, _, _⟩ := DataW.trod_string Tryd.underlying9 (x := y0) (by simpa [c9] using g0)
  obtain ⟨a1, e1, _, _⟩ := DataW.trod_int Tryd.underlying3 (x := y1) (by simpa [c9, c3] using g1)
  simp at e0 e1
  subst e0 e1
  exact ⟨⟨a0, a1⟩, rfl⟩
/-- a list of declarations that comes in -/
theorem open_decls {H : Type} {enc : TypeId × Value → H} {W : World} {A : Option Addr} {N C : Nat} {d : DataW H} {p : List MemPlace} (hA : A = none ∨ ∃ b o, A = some ⟨b, o, none⟩) (h : DataW.Trod enc Tryd.prog W 0 (fun _ => true) true 34 (.slice A N C) d p) :
    ∃ l : List Dc, HD W A N C l ∧ N + 1 ≤ Rows.uptoBulk d := by
  obtain ⟨fuel, hf⟩ := h
  rcases Deep.open_slice Tryd.underlying34 hf with ⟨hcs, hx⟩ | ⟨x, n', c', m, n, D, Pl, hcs, _, hl, hm, hz, hx, hcell⟩
  · simp [Value.cells] at hcs
    obtain ⟨rfl, rfl, rfl⟩ := hcs
    have hd : d = .nil := by injection hx
    subst hd
    exact ⟨[], HD.nil _ _ _, by simp [Rows.uptoBulk]⟩
  · simp [Value.cells] at hcs
    obtain ⟨rfl, rfl, rfl⟩ := hcs
    simp only [if_true] at hz
    subst hz
    obtain ⟨b, off, rfl⟩ : ∃ b o, x = ⟨b, o, none⟩ := by
      rcases hA with e | ⟨b, o, e⟩
      · cases e
      · exact ⟨b, o, Option.some.inj e⟩
    have hd : d = .slice ((List.range N).map D) ((List.range (m - N)).map fun j => D (N + j)) := by injection hx
    have ce : Tryd.prog.cellsOf 44 = 2 := by kernel_rfl
    have each : ∀ i, i < N → ∃ q : Dc, ∀ j u, (encD q)[j]? = some u → W.cell? ⟨b, off + i * 2 + j, none⟩ = some u := by
      intro i hi
      obtain ⟨cs', h1, h2⟩ := hcell i (by omega)
      rw [ce] at h1
      obtain ⟨_, hlen, hc⟩ := World.cells?_some h1
      obtain ⟨y, rfl⟩ := open_dc hlen h2
      refine ⟨y, fun j u hj => ?_⟩
      have hj2 : j < 2 := by
        rcases Nat.lt_or_ge j 2 with h' | h'
        · exact h'
        · rw [List.getElem?_eq_none (by rw [hlen]; exact h')] at hj; cases hj
      have := hc j hj2
      rw [hj] at this
      simpa only [Addr.add_lit] using this
    haveI : Inhabited Dc := ⟨⟨⟨#[]⟩, 0⟩⟩
    obtain ⟨q, hq⟩ := Deep.choose_lt each
    have hbl := bulk_list ((List.range N).map D)
    refine ⟨(List.range N).map q, ⟨by simp, hl, fun hN => ⟨b, off, rfl, ?_, fun j u hj => ?_⟩⟩, ?_⟩
    · have := hq 0 hN 0 _ rfl
      exact World.block_lt_of_cell? W _ this
    · have hj2 : j < N * 2 := by
        rcases Nat.lt_or_ge j (N * 2) with h' | h'
        · exact h'
        · rw [List.getElem?_eq_none (by rw [rwD_length]; simpa using h')] at hj; cases hj
      obtain ⟨i, t, ht, rfl⟩ : ∃ i t, t < 2 ∧ j = i * 2 + t := ⟨j / 2, j % 2, Nat.mod_lt _ (by omega), by omega⟩
      have hi : i < N := by omega
      rw [rwD_get _ i (by simpa using hi) t ht] at hj
      have hgi : ((List.range N).map q)[i]'(by simpa using hi) = q i := by simp
      rw [hgi] at hj
      rw [← Nat.add_assoc]
      exact hq i hi t u hj
    · rw [hd]
      simp only [Rows.uptoBulk]
      simp at hbl
      omega
/-- what Fits answers -/
def fitX (x : Vr) (y : Dc) : Bool := (x.nm.toList == y.nm.toList) && ((x.v.k == y.kd) && mayV x.v)
def fitsB : List Vr → List Dc → Bool
  | [], [] => true
  | x :: a, y :: b => fitX x y && fitsB a b
  | _, _ => false
theorem fitsB_len : ∀ {a : List Vr} {b : List Dc}, a.length ≠ b.length → fitsB a b = false
  | [], [], h => absurd rfl h
  | [], _ :: _, _ => rfl
  | _ :: _, [], _ => rfl
  | x :: a, y :: b, h => by
    unfold fitsB
    rw [fitsB_len (a := a) (b := b) (fun e => h (by simp [e])), Bool.and_false]
theorem fitsB_at {a : List Vr} {b : List Dc} {i : Nat} (h : i < a.length) (h' : i < b.length) : fitsB (a.drop i) (b.drop i) = (fitX a[i] b[i] && fitsB (a.drop (i + 1)) (b.drop (i + 1))) := by
  rw [List.drop_eq_getElem_cons h, List.drop_eq_getElem_cons h']; rfl
end Go.Proofs.YtnmailhlncchmaaDoor
