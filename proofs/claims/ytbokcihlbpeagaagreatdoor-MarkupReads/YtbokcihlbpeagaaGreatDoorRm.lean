/-
  What is proved: marks and attributes in memory, and a row that gets one element more. Conditions: those in each statement.
-/
import Derived.Test.YtbokcihlbpeagaaGreatDoorRl
import Derived.Deep.AppendLies
namespace Go.Proofs.YtbokcihlbpeagaaGreatDoor
open Go.RowKit

section
variable {w w' : World} {B : Nat} {e : TypeId} {z : Nat} {v : Value} {n : Nat} {xs : List Value}
theorem own_keepG (h : w.ownsRow B e z v n xs) (hk : ∀ b, v.ownBlock = some b → w'.heap[b]? = w.heap[b]?) : w'.ownsRow B e z v n xs := by
  refine ⟨h.1, ?_⟩
  rcases h.2 with hn | ⟨g, cap, cur, rfl, hb, hg, r⟩
  · exact .inl hn
  · exact .inr ⟨g, cap, cur, rfl, hb, by rw [hk g rfl]; exact hg, r⟩
theorem own_at (h : w.ownsRow B e z v n xs) {b : Nat} (hb : v.ownBlock = some b) : ∃ cur, w.heap[b]? = some (.cells cur e (0, 0)) ∧ B ≤ b := by
  rcases h.2 with ⟨rfl, _⟩ | ⟨g, cap, cur, rfl, h1, hg, _⟩
  · cases hb
  · simp [Value.ownBlock] at hb
    subst hb
    exact ⟨cur, hg, h1⟩
theorem own_one (h : w.ownsRow B e z v n xs) : v.oneCell' = true := by
  rcases h.2 with ⟨rfl, _⟩ | ⟨g, cap, cur, rfl, _⟩ <;> rfl
theorem own_slice (h : w.ownsRow B e z v n xs) : ∃ A c, v = .slice A n c := by
  rcases h.2 with ⟨rfl, rfl⟩ | ⟨g, cap, cur, rfl, _⟩
  · exact ⟨_, _, rfl⟩
  · exact ⟨_, _, rfl⟩
end
def atC (a : At3) : List Value := [.string ⟨a.name.toArray⟩, .string ⟨a.value.toArray⟩, .int .i64 (a.at_ : Int)]
def atCells (l : List At3) : List Value := l.flatMap atC
theorem atCells_length (l : List At3) : (atCells l).length = l.length * 3 := by
  induction l with
  | nil => rfl
  | cons a l ih => simp only [atCells, List.flatMap_cons, List.length_append, List.length_cons] at ih ⊢; rw [ih]; simp [atC]; omega
theorem atCells_snoc (l : List At3) (a : At3) : atCells (l ++ [a]) = atCells l ++ atC a := by simp [atCells]
/-- a row of attributes of the call's own -/
def AR (w : World) (B : Nat) (v : Value) (l : List At3) : Prop := w.ownsRow B 38 3 v l.length (atCells l)
def mkC (z : Mk × Value) : List Value := [.int .i64 (z.1.kind : Int), .string ⟨z.1.name.toArray⟩, z.2, .bool z.1.empty, .string ⟨z.1.text.toArray⟩, .int .i64 (z.1.at_ : Int)]
def mkCells (zs : List (Mk × Value)) : List Value := zs.flatMap mkC
theorem mkCells_length (zs : List (Mk × Value)) : (mkCells zs).length = zs.length * 6 := by
  induction zs with
  | nil => rfl
  | cons a l ih => simp only [mkCells, List.flatMap_cons, List.length_append, List.length_cons] at ih ⊢; rw [ih]; simp [mkC]; omega
theorem mkCells_snoc (zs : List (Mk × Value)) (z : Mk × Value) : mkCells (zs ++ [z]) = mkCells zs ++ mkC z := by simp [mkCells]
/-- a row of marks of the call's own, each with a row of attributes of the call's own -/
structure MR (w : World) (B : Nat) (v : Value) (zs : List (Mk × Value)) : Prop where
  row : w.ownsRow B 36 6 v zs.length (mkCells zs)
  att : ∀ z ∈ zs, AR w B z.2 z.1.attrs
  apart : zs.Pairwise fun a b => a.2.ownBlock = none ∨ a.2.ownBlock ≠ b.2.ownBlock
theorem MR.nil (w : World) (B : Nat) : MR w B (.slice none 0 0) [] := ⟨World.ownsRow_nil _ _ _ _, by simp, .nil⟩
theorem MR.keep {w w' : World} {B : Nat} {v : Value} {zs : List (Mk × Value)} (h : MR w B v zs) (hk : ∀ b cur t, (t = 36 ∨ t = 38) → B ≤ b → w.heap[b]? = some (.cells cur t (0, 0)) → w'.heap[b]? = w.heap[b]?) : MR w' B v zs := by
  refine ⟨own_keepG h.row fun b hb => ?_, fun z hz => own_keepG (h.att z hz) fun b hb => ?_, h.apart⟩
  · obtain ⟨cur, h1, h2⟩ := own_at h.row hb
    exact hk b cur _ (.inl rfl) h2 h1
  · obtain ⟨cur, h1, h2⟩ := own_at (h.att z hz) hb
    exact hk b cur _ (.inr rfl) h2 h1
theorem AR.keep {w w' : World} {B : Nat} {v : Value} {l : List At3} (h : AR w B v l) (hk : ∀ b cur, B ≤ b → w.heap[b]? = some (.cells cur 38 (0, 0)) → w'.heap[b]? = w.heap[b]?) : AR w' B v l :=
  own_keepG h fun b hb => by obtain ⟨cur, h1, h2⟩ := own_at h hb; exact hk b cur h2 h1
theorem heap_lt {w : World} {b : Nat} {o : Obj} (h : w.heap[b]? = some o) : b < w.heap.size := (Array.getElem?_eq_some_iff.1 h).1
theorem Rd.tag {w : World} {p : Nat} {s : ByteArray} {k f : Nat} {m : Value} (h : Rd w p s k f m) {b : Nat} {cur : Array Value} {t : TypeId} {fr : Nat × Nat} (hb : w.heap[b]? = some (.cells cur t fr)) (ht : t ≠ 49) : b ≠ p := by
  rintro rfl
  unfold Rd at h
  rw [h] at hb
  simp only [Option.some.injEq, Obj.cells.injEq] at hb
  exact ht hb.2.1.symm
theorem MR.mv {w w' : World} {B p : Nat} {v : Value} {zs : List (Mk × Value)} (h : MR w B v zs) (hm : Mv p w w') {s : ByteArray} {k f : Nat} {m : Value} (hr : Rd w p s k f m) : MR w' B v zs :=
  h.keep fun b cur t ht _ hb => hm.block b (heap_lt hb) (hr.tag hb (by rcases ht with rfl | rfl <;> decide))
theorem AR.mv {w w' : World} {B p : Nat} {v : Value} {l : List At3} (h : AR w B v l) (hm : Mv p w w') {s : ByteArray} {k f : Nat} {m : Value} (hr : Rd w p s k f m) : AR w' B v l :=
  h.keep fun b cur _ hb => hm.block b (heap_lt hb) (hr.tag hb (by decide))
theorem Tryz.infoMk : (Tryz.prog.info? 36).map (fun i => (i.zero, i.size, i.bytes)) = some (some (.agg #[.int .i64 0, .string ⟨#[]⟩, .slice none 0 0, .bool false, .string ⟨#[]⟩, .int .i64 0]), 6, 80) := by kernel_rfl
theorem Tryz.infoAt : (Tryz.prog.info? 38).map (fun i => (i.zero, i.size, i.bytes)) = some (some (.agg #[.string ⟨#[]⟩, .string ⟨#[]⟩, .int .i64 0]), 3, 40) := by kernel_rfl
/-- 'append' of one element, as a run: the row's own block, or a new one -/
theorem apG {V : World} {base n : Nat} {v : Value} {xs : List Value} {t s K bytes : Nat} {z : Value} (cs : List Value) (i0 : TypeInfo) (hu : Tryz.prog.underlying s = some (.slice t)) (hi : Tryz.prog.info? t = some i0) (hz0 : i0.zero = some z) (hz1 : i0.size = K) (hz2 : i0.bytes = bytes) (hzs : z.cells.size = K) (hK : 0 < K)
    (hown : V.ownsRow base t K v n xs) (hl : cs.length = K) (h1 : ∀ u ∈ cs, u.oneCell' = true) (hby : (n + 1) * bytes ≤ 140737488355328) (hn : n ≤ 1048576) (hbase : base ≤ V.heap.size) :
    ∃ q cap W2, (∀ ty, (Builtin.append_ #[s, s] ty #[v, .slice (some ⟨V.heap.size, 0, none⟩) 1 1]).run Tryz.prog (V.alloc (.cells cs.toArray t)) = .ok (.slice (some ⟨q, 0, none⟩) (n + 1) cap) W2) ∧
      W2.ownsRow base t K (.slice (some ⟨q, 0, none⟩) (n + 1) cap) (n + 1) (xs ++ cs) ∧ (V.alloc (.cells cs.toArray t)).grownBy W2 v.ownBlock ∧ (v.ownBlock = some q ∨ q = V.heap.size + 1) := by
  obtain ⟨Q, cap, W7, hr, hown7, hgrow, hor, _⟩ := run_append_lies (P := Tryz.prog) (V.alloc (.cells cs.toArray t)) s 0 base t i0 z K bytes hu hi hz0 hz1 hz2 hzs hK v n xs (hown.alloc _)
    ⟨V.heap.size, 0, none⟩ 1 1 cs (by rw [hl, Nat.one_mul]) (World.news_of_block (cs := cs.toArray) (t := t) (fr := (0, 0)) (heap_alloc_new V _)) h1 (by omega) (by unfold maxLen; omega) hby (by simp; omega) _ rfl
  exact ⟨Q, cap, W7, fun ty => hr, hown7, hgrow, by simpa using hor⟩
end Go.Proofs.YtbokcihlbpeagaaGreatDoor
