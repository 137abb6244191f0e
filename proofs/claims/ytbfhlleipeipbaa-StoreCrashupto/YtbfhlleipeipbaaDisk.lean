/-
  What is proved: plain facts on a disk as lists of bytes, and on how it lies in memory, that the walks of this seat use. No condition but those in each statement.
-/
import Derived.Test.YtbfhlleipeipbaaOwn
import Derived.Deep.MidRow
import Derived.Laws.CopyOwn
import Derived.Laws.MakeOwn
namespace Go.Proofs.Ytbfhlleipeipbaa
open Go.RowKit

/-! ### a disk, as lists -/
structure D where
  last : List (List UInt8)
  buf : List (Nat × List UInt8)
  left : Int
structure D.Ok (s : D) : Prop where
  sec : ∀ l ∈ s.last, l.length = 64
  wr : ∀ p ∈ s.buf, p.1 < s.last.length ∧ p.2.length = 64
  pos : 1 ≤ s.last.length
  most : s.last.length ≤ 65536
  lo : -9223372036854775808 ≤ s.left
  hi : s.left ≤ 9223372036854775807
def zer : List UInt8 := List.replicate 64 0
def pad (l : List UInt8) : List UInt8 := l ++ List.replicate (64 - l.length) 0
def settle (last : List (List UInt8)) (b : List (Nat × List UInt8)) : List (List UInt8) := b.foldl (fun a p => a.set p.1 p.2) last
def D.told (s : D) (i : Nat) : List UInt8 := (settle s.last s.buf)[i]?.getD []
def D.refuse (s : D) (i : Int) : Int := if s.left = 0 then 32 else if i < 0 ∨ (s.last.length : Int) ≤ i then 31 else 0
def tick (n : Int) : Int := if 0 < n then n - 1 else n
def D.wErr (s : D) (i : Int) (n : Nat) : Int := if s.refuse i ≠ 0 then s.refuse i else if 64 < n then 3 else 0
def D.wSt (s : D) (i : Int) (l : List UInt8) : D := if s.refuse i ≠ 0 then s else if 64 < l.length then s else ⟨s.last, s.buf ++ [(i.toNat, pad l)], tick s.left⟩
def D.fErr (s : D) : Int := if s.left = 0 then 32 else 0
def D.fSt (s : D) : D := if s.left = 0 then s else ⟨settle s.last s.buf, [], tick s.left⟩
def D.aSt (s : D) (n : Int) : D := if s.left = 0 then s else ⟨s.last, s.buf, n⟩
def clampN (n : Int) (most : Nat) : Nat := min n.toNat most
def tear (new old : List UInt8) (t : Nat) : List UInt8 := new.take t ++ old.drop t
def D.cLast (s : D) (keep torn : Int) : List (List UInt8) :=
  match s.buf[clampN keep s.buf.length]? with
  | none => settle s.last (s.buf.take (clampN keep s.buf.length))
  | some p => (settle s.last (s.buf.take (clampN keep s.buf.length))).set p.1 (tear p.2 ((settle s.last (s.buf.take (clampN keep s.buf.length)))[p.1]?.getD []) (clampN torn 64))
def D.cSt (s : D) (keep torn : Int) : D := ⟨s.cLast keep torn, [], -1⟩
def newSt (n : Nat) : D := ⟨List.replicate n zer, [], -1⟩
def newN (n : Int) : Nat := (min (max n 1) 65536).toNat

theorem pad_length (l : List UInt8) (h : l.length ≤ 64) : (pad l).length = 64 := by simp [pad]; omega
theorem settle_length (b : List (Nat × List UInt8)) : ∀ last, (settle last b).length = last.length := by
  induction b with
  | nil => intro _; rfl
  | cons p b ih => intro last; show (settle (last.set p.1 p.2) b).length = _; rw [ih]; simp
theorem settle_snoc (last : List (List UInt8)) (b : List (Nat × List UInt8)) (p : Nat × List UInt8) : settle last (b ++ [p]) = (settle last b).set p.1 p.2 := by
  simp [settle]
theorem settle_take (last : List (List UInt8)) (b : List (Nat × List UInt8)) (k : Nat) (h : k < b.length) : settle last (b.take (k + 1)) = (settle last (b.take k)).set b[k].1 b[k].2 := by
  rw [List.take_succ_eq_append_getElem h, settle_snoc]
theorem mem_set_len {last : List (List UInt8)} (h : ∀ l ∈ last, l.length = 64) (i : Nat) (x : List UInt8) (hx : x.length = 64) : ∀ l ∈ last.set i x, l.length = 64 := by
  intro l hl
  rcases List.mem_or_eq_of_mem_set hl with h1 | rfl
  · exact h l h1
  · exact hx
theorem settle_sec (b : List (Nat × List UInt8)) : ∀ last, (∀ l ∈ last, l.length = 64) → (∀ p ∈ b, p.2.length = 64) → ∀ l ∈ settle last b, l.length = 64 := by
  induction b with
  | nil => intro last h _; exact h
  | cons p b ih =>
    intro last h hb
    show ∀ l ∈ settle (last.set p.1 p.2) b, _
    exact ih _ (mem_set_len h _ _ (hb p (by simp))) (fun q hq => hb q (by simp [hq]))
theorem tick_bounds {n : Int} (h1 : -9223372036854775808 ≤ n) (h2 : n ≤ 9223372036854775807) : -9223372036854775808 ≤ tick n ∧ tick n ≤ 9223372036854775807 := by
  unfold tick; split <;> omega
theorem getD_len {ls : List (List UInt8)} (h : ∀ l ∈ ls, l.length = 64) {i : Nat} (hi : i < ls.length) : (ls[i]?.getD []).length = 64 := by
  rw [List.getElem?_eq_getElem hi]; exact h _ (List.getElem_mem hi)

namespace D.Ok
variable {s : D} (h : s.Ok)
include h
theorem wSt (i : Int) (l : List UInt8) : (s.wSt i l).Ok := by
  unfold D.wSt
  split
  · exact h
  · split
    · exact h
    · rename_i h1 h2
      have hb := tick_bounds h.lo h.hi
      refine ⟨h.sec, ?_, h.pos, h.most, hb.1, hb.2⟩
      intro p hp
      rcases List.mem_append.1 hp with hp | hp
      · exact h.wr p hp
      · simp at hp
        subst hp
        refine ⟨?_, pad_length _ (by omega)⟩
        unfold D.refuse at h1
        show i.toNat < s.last.length
        by_cases h0 : s.left = 0
        · simp [h0] at h1
        · by_cases hr : i < 0 ∨ (s.last.length : Int) ≤ i
          · simp [h0, hr] at h1
          · omega
theorem settled (b : List (Nat × List UInt8)) (hb : ∀ p ∈ b, p ∈ s.buf) (n : Int) (h1 : -9223372036854775808 ≤ n) (h2 : n ≤ 9223372036854775807) : D.Ok ⟨settle s.last b, [], n⟩ :=
  ⟨settle_sec b _ h.sec (fun p hp => (h.wr p (hb p hp)).2), by simp, by simpa [settle_length] using h.pos, by simpa [settle_length] using h.most, h1, h2⟩
theorem fSt : s.fSt.Ok := by
  unfold D.fSt
  split
  · exact h
  · have hb := tick_bounds h.lo h.hi
    exact h.settled _ (fun _ hp => hp) _ hb.1 hb.2
theorem aSt (n : Int) (h1 : -9223372036854775808 ≤ n) (h2 : n ≤ 9223372036854775807) : (s.aSt n).Ok := by
  unfold D.aSt
  split
  · exact h
  · exact ⟨h.sec, h.wr, h.pos, h.most, h1, h2⟩
theorem cLast_ok (k t : Int) : (∀ l ∈ s.cLast k t, l.length = 64) ∧ (s.cLast k t).length = s.last.length := by
  have hs := settle_sec (s.buf.take (clampN k s.buf.length)) s.last h.sec (fun p hp => (h.wr p (List.mem_of_mem_take hp)).2)
  unfold D.cLast
  split
  · exact ⟨hs, settle_length _ _⟩
  · rename_i p hp
    have hm := h.wr p (List.mem_of_getElem? hp)
    refine ⟨mem_set_len hs _ _ ?_, by simp [settle_length]⟩
    have := getD_len hs (i := p.1) (by rw [settle_length]; exact hm.1)
    have hc : clampN t 64 ≤ 64 := by unfold clampN; omega
    simp [tear, hm.2]
    rw [this]
    omega
theorem cSt (k t : Int) : (s.cSt k t).Ok :=
  ⟨(h.cLast_ok k t).1, by simp [D.cSt], by show 1 ≤ (s.cLast k t).length; rw [(h.cLast_ok k t).2]; exact h.pos, by show (s.cLast k t).length ≤ 65536; rw [(h.cLast_ok k t).2]; exact h.most, by show (-9223372036854775808 : Int) ≤ -1; omega, by show (-1 : Int) ≤ _; omega⟩
theorem told_len {i : Nat} (hi : i < s.last.length) : (s.told i).length = 64 :=
  getD_len (settle_sec _ _ h.sec fun p hp => (h.wr p hp).2) (by rw [settle_length]; exact hi)
end D.Ok
theorem newSt_ok (n : Nat) (h1 : 1 ≤ n) (h2 : n ≤ 65536) : (newSt n).Ok :=
  ⟨by intro l hl; simp [newSt] at hl; rw [hl.2]; rfl, by simp [newSt], by simpa [newSt] using h1, by simpa [newSt] using h2, by show (-9223372036854775808 : Int) ≤ -1; omega, by show (-1 : Int) ≤ _; omega⟩

/-! ### rows of rows -/
theorem flat_length {α : Type} (s : Nat) : ∀ (ls : List (List α)), (∀ l ∈ ls, l.length = s) → ls.flatten.length = ls.length * s := by
  intro ls
  induction ls with
  | nil => intro _; simp
  | cons l ls ih =>
    intro h
    rw [List.flatten_cons, List.length_append, ih (fun x hx => h x (by simp [hx])), h l (by simp), List.length_cons, Nat.succ_mul]
    omega
theorem flat_get {α : Type} (s : Nat) : ∀ (ls : List (List α)), (∀ l ∈ ls, l.length = s) → ∀ (k j : Nat) (hk : k < ls.length), j < s → ls.flatten[k * s + j]? = ls[k][j]? := by
  intro ls
  induction ls with
  | nil => intro _ k j hk; simp at hk
  | cons l ls ih =>
    intro h k j hk hj
    have hl := h l (by simp)
    cases k with
    | zero =>
      rw [List.flatten_cons, List.getElem?_append_left (by omega)]
      simp
    | succ k =>
      rw [List.flatten_cons, List.getElem?_append_right (by rw [hl, Nat.succ_mul]; omega), hl]
      have e : (k + 1) * s + j - s = k * s + j := by rw [Nat.succ_mul]; omega
      rw [e, ih (fun x hx => h x (by simp [hx])) k j (by simpa using hk) hj]
      simp
theorem flat_set {α : Type} (s : Nat) : ∀ (ls : List (List α)), (∀ l ∈ ls, l.length = s) → ∀ (k : Nat), k < ls.length → ∀ (x : List α), x.length = s → (ls.set k x).flatten = splice ls.flatten (k * s) x := by
  intro ls h k hk x hx
  apply List.ext_getElem?
  intro i
  have hlen := flat_length s ls h
  have hset : ∀ l ∈ ls.set k x, l.length = s := by
    intro l hl
    rcases List.mem_or_eq_of_mem_set hl with h1 | rfl
    · exact h l h1
    · exact hx
  have hlen2 := flat_length s (ls.set k x) hset
  rw [List.length_set] at hlen2
  have hle : k * s + s ≤ ls.length * s := by rw [← Nat.succ_mul]; exact Nat.mul_le_mul_right _ hk
  by_cases hi : i < ls.length * s
  · by_cases hs : s = 0
    · subst hs; omega
    · have hq : i / s < ls.length := (Nat.div_lt_iff_lt_mul (by omega)).2 hi
      have hr : i % s < s := Nat.mod_lt _ (by omega)
      have hi2 : i = i / s * s + i % s := by rw [Nat.mul_comm]; exact (Nat.div_add_mod i s).symm
      have e1 := flat_get s (ls.set k x) hset (i / s) (i % s) (by rwa [List.length_set]) hr
      have e2 := flat_get s ls h (i / s) (i % s) hq hr
      rw [← hi2] at e1 e2
      rw [e1]
      unfold splice
      rcases Nat.lt_trichotomy (i / s) k with hlt | heq | hgt
      · have : i < k * s := by
          have h1 : (i / s + 1) * s ≤ k * s := Nat.mul_le_mul_right _ hlt
          rw [Nat.succ_mul] at h1
          omega
        rw [List.getElem?_append_left (by rw [List.length_take]; omega), List.getElem?_take, if_pos this, e2]
        rw [List.getElem_set_ne (by omega)]
      · have h1 : k * s ≤ i := by rw [← heq]; omega
        have h2 : i - k * s = i % s := by rw [← heq]; omega
        have ht : (ls.flatten.take (k * s)).length = k * s := by rw [List.length_take]; omega
        rw [List.getElem?_append_right (by rw [ht]; exact h1), ht, h2, List.getElem?_append_left (by omega)]
        subst heq
        simp
      · have h0 : (k + 1) * s ≤ i / s * s := Nat.mul_le_mul_right _ hgt
        rw [Nat.succ_mul] at h0
        have ht : (ls.flatten.take (k * s)).length = k * s := by rw [List.length_take]; omega
        rw [List.getElem?_append_right (by rw [ht]; omega), ht, List.getElem?_append_right (by omega), List.getElem?_drop, hx]
        have e3 : k * s + s + (i - k * s - s) = i := by omega
        rw [e3, e2, List.getElem_set_ne (by omega)]
  · rw [List.getElem?_eq_none (by omega), List.getElem?_eq_none (by rw [length_splice _ _ _ (by omega)]; omega)]

def secV (ls : List (List UInt8)) : List Value := (ls.map bv).flatten
def wV (p : Nat × List UInt8) : List Value := .int .i64 (p.1 : Int) :: bv p.2
def bufV (b : List (Nat × List UInt8)) : List Value := (b.map wV).flatten
theorem sec_each {ls : List (List UInt8)} (h : ∀ l ∈ ls, l.length = 64) : ∀ x ∈ ls.map bv, x.length = 64 := by
  intro x hx
  obtain ⟨l, hl, rfl⟩ := List.mem_map.1 hx
  rw [bv_length, h l hl]
theorem buf_each {b : List (Nat × List UInt8)} (h : ∀ p ∈ b, p.2.length = 64) : ∀ x ∈ b.map wV, x.length = 65 := by
  intro x hx
  obtain ⟨p, hp, rfl⟩ := List.mem_map.1 hx
  simp [wV, bv_length, h p hp]
theorem secV_length {ls : List (List UInt8)} (h : ∀ l ∈ ls, l.length = 64) : (secV ls).length = ls.length * 64 := by
  unfold secV; rw [flat_length 64 _ (sec_each h)]; simp
theorem secV_set {ls : List (List UInt8)} (h : ∀ l ∈ ls, l.length = 64) {k : Nat} (hk : k < ls.length) (x : List UInt8) (hx : x.length = 64) : secV (ls.set k x) = splice (secV ls) (k * 64) (bv x) := by
  unfold secV
  rw [List.map_set]
  exact flat_set 64 _ (sec_each h) k (by simpa using hk) _ (by rw [bv_length, hx])
theorem bufV_snoc (b : List (Nat × List UInt8)) (p : Nat × List UInt8) : bufV (b ++ [p]) = bufV b ++ wV p := by simp [bufV]
theorem wV_one (p : Nat × List UInt8) : ∀ u ∈ wV p, u.oneCell' = true := by
  intro u hu
  simp only [wV, List.mem_cons] at hu
  rcases hu with rfl | hu
  · rfl
  · exact bv_one _ u hu

/-! ### blocks -/
theorem heap_setCell_at {w : World} {g : Nat} {C : Array Value} {t : TypeId} {fr : Nat × Nat} (h : w.heap[g]? = some (.cells C t fr)) (j : Nat) (v : Value) : (w.setCell ⟨g, j, none⟩ v).heap[g]? = some (.cells (C.setIfInBounds j v) t fr) := by
  rw [setCell_eq_setRow w g j C t fr v h]
  exact setRow_heap w g C _ t _ h
theorem heap_setCells_other (g k : Nat) (hk : k ≠ g) : ∀ (vs : List Value) (o : Nat) (w : World), (w.setCells g o vs).heap[k]? = w.heap[k]?
  | [], _, _ => rfl
  | v :: r, o, w => by
    rw [World.setCells, heap_setCells_other g k hk r]
    exact Below.heap_setCell _ _ _ _ hk
theorem setCells_keeps (g : Nat) : ∀ (vs : List Value) (o : Nat) (w : World), (w.setCells g o vs).os = w.os ∧ (w.setCells g o vs).tape = w.tape ∧ (w.setCells g o vs).output = w.output ∧ (w.setCells g o vs).heap.size = w.heap.size
  | [], _, _ => ⟨rfl, rfl, rfl, rfl⟩
  | v :: r, o, w => by
    rw [World.setCells]
    obtain ⟨h1, h2, h3, h4⟩ := setCells_keeps g r (o + 1) (w.setCell ⟨g, o, none⟩ v)
    exact ⟨h1, h2, h3, by rw [h4]; simp [World.setCell]⟩
theorem heap_setCells_at (g : Nat) (t : TypeId) (fr : Nat × Nat) : ∀ (vs : List Value) (o : Nat) (w : World) (C : Array Value), w.heap[g]? = some (.cells C t fr) → o + vs.length ≤ C.size →
    ∃ C' : Array Value, (w.setCells g o vs).heap[g]? = some (.cells C' t fr) ∧ C'.toList = splice C.toList o vs ∧ C'.size = C.size
  | [], o, w, C, h, _ => ⟨C, h, by simp [splice], rfl⟩
  | v :: r, o, w, C, h, hl => by
    rw [World.setCells]
    simp only [List.length_cons] at hl
    obtain ⟨C', h1, h2, h3⟩ := heap_setCells_at g t fr r (o + 1) _ _ (heap_setCell_at h o v) (by simp; omega)
    refine ⟨C', h1, ?_, by rw [h3]; simp⟩
    rw [h2]
    unfold splice
    apply List.ext_getElem?
    intro i
    simp only [Array.toList_setIfInBounds, List.getElem?_append, List.length_take, List.length_set, Array.length_toList, List.getElem?_take, List.getElem?_drop, List.getElem?_set, List.length_cons]
    by_cases h1 : i < o
    · simp [h1, show i < o + 1 by omega, show o ≠ i by omega, show min (o + 1) C.size = o + 1 by omega, show min o C.size = o by omega]
    · by_cases h2 : i = o
      · subst h2
        simp [show min (i + 1) C.size = i + 1 by omega, show min i C.size = i by omega, show i < C.size by omega]
      · simp only [show ¬ i < o + 1 by omega, h1, show min (o + 1) C.size = o + 1 by omega, show min o C.size = o by omega, if_false]
        have e : i - o = (i - (o + 1)) + 1 := by omega
        rw [e, List.getElem?_cons_succ]
        by_cases h3 : i - (o + 1) < r.length
        · simp [h3, show i - (o + 1) + 1 < r.length + 1 by omega]
        · simp only [h3, show ¬ i - (o + 1) + 1 < r.length + 1 by omega, if_false]
          rw [if_neg (by omega), show o + 1 + r.length + (i - (o + 1) - r.length) = o + (r.length + 1) + (i - (o + 1) + 1 - (r.length + 1)) by omega]

/-- a row of the call's own: its cells -/
theorem own_range {w : World} {e : TypeId} {z g n cap : Nat} {xs : List Value} (h : w.ownsRow 0 e z (.slice (some ⟨g, 0, none⟩) n cap) n xs) (o : Nat) (cs : List Value) (hx : ∀ j v, cs[j]? = some v → xs[o + j]? = some v) : w.rangeAt g o cs := by
  rcases h.2 with ⟨hv, _⟩ | ⟨g', cap', cur, hv, _, hg, _, _, _, ht⟩
  · cases hv
  · injection hv with h1 h2 h3
    injection h1 with h1
    injection h1 with h1
    subst h1
    intro j v hj
    rw [cell_of_row w g (o + j) cur e (0, 0) hg]
    have := hx j v hj
    rw [← ht, List.getElem?_take] at this
    split at this
    · simpa using this
    · cases this
theorem own_block {w : World} {e : TypeId} {z g n cap : Nat} {xs : List Value} (h : w.ownsRow 0 e z (.slice (some ⟨g, 0, none⟩) n cap) n xs) : ∃ cur, w.heap[g]? = some (.cells cur e (0, 0)) ∧ n ≤ cap ∧ cap ≤ maxLen ∧ cur.size = cap * z ∧ cur.toList.take (n * z) = xs := by
  rcases h.2 with ⟨hv, _⟩ | ⟨g', cap', cur, hv, _, hg, h1, h2, h3, h4⟩
  · cases hv
  · injection hv with h5 h6 h7
    injection h5 with h5
    injection h5 with h5
    subst h5 h7
    exact ⟨cur, hg, h1, h2, h3, h4⟩
theorem own_there {w : World} {e : TypeId} {z g n cap : Nat} {xs : List Value} (h : w.ownsRow 0 e z (.slice (some ⟨g, 0, none⟩) n cap) n xs) (o m : Nat) (hm : o + m ≤ n * z) : w.there g o m := by
  obtain ⟨cur, hg, h1, h2, h3, h4⟩ := own_block h
  intro j hj
  have hle : n * z ≤ cap * z := Nat.mul_le_mul_right _ h1
  refine ⟨?_, ?_⟩
  · rw [cell_of_row w g (o + j) cur e (0, 0) hg]
    have : o + j < cur.size := by omega
    simp [this]
  · simp [World.frozen?, hg]
theorem own_keep {w w' : World} {e : TypeId} {z n : Nat} {v : Value} {xs : List Value} (h : w.ownsRow 0 e z v n xs) (hk : ∀ b, v.ownBlock = some b → w'.heap[b]? = w.heap[b]?) : w'.ownsRow 0 e z v n xs := by
  refine ⟨h.1, ?_⟩
  rcases h.2 with hn | ⟨g, cap, cur, rfl, hb, hg, r⟩
  · exact .inl hn
  · exact .inr ⟨g, cap, cur, rfl, hb, by rw [hk g rfl]; exact hg, r⟩
theorem own_setCells {w : World} {e : TypeId} {z g n cap : Nat} {xs : List Value} (h : w.ownsRow 0 e z (.slice (some ⟨g, 0, none⟩) n cap) n xs) (o : Nat) (vs : List Value) (hm : o + vs.length ≤ n * z) :
    (w.setCells g o vs).ownsRow 0 e z (.slice (some ⟨g, 0, none⟩) n cap) n (splice xs o vs) := by
  obtain ⟨cur, hg, h1, h2, h3, h4⟩ := own_block h
  have hle : n * z ≤ cap * z := Nat.mul_le_mul_right _ h1
  obtain ⟨C', k1, k2, k3⟩ := heap_setCells_at g e (0, 0) vs o w cur hg (by omega)
  have hxl := h.1
  refine ⟨by rw [length_splice _ _ _ (by omega)]; exact hxl, .inr ⟨g, cap, C', rfl, Nat.zero_le _, k1, h1, h2, by omega, ?_⟩⟩
  rw [k2, ← h4]
  have hcl : cur.toList.length = cap * z := by simpa using h3
  clear k1 k2 k3 h hg h1 h3
  generalize n * z = a at *
  generalize cap * z = b at *
  unfold splice
  apply List.ext_getElem?
  intro i
  by_cases h1 : i < o
  · rw [List.getElem?_take, if_pos (by omega), List.getElem?_append_left (by rw [List.length_take]; omega), List.getElem?_append_left (by rw [List.length_take, List.length_take]; omega), List.getElem?_take, List.getElem?_take, if_pos h1, if_pos h1, List.getElem?_take, if_pos (by omega)]
  · have e1 : (cur.toList.take o).length = o := by rw [List.length_take]; omega
    have e2 : ((cur.toList.take a).take o).length = o := by rw [List.length_take, List.length_take]; omega
    rw [List.getElem?_take, List.getElem?_append_right (l₁ := cur.toList.take o) (by omega), List.getElem?_append_right (l₁ := (cur.toList.take a).take o) (by omega), e1, e2]
    by_cases h2 : i - o < vs.length
    · rw [if_pos (by omega), List.getElem?_append_left h2, List.getElem?_append_left h2]
    · rw [List.getElem?_append_right (by omega), List.getElem?_append_right (by omega), List.getElem?_drop, List.getElem?_drop, List.getElem?_take, show o + vs.length + (i - o - vs.length) = i by omega]

/-! ### a disk in memory -/
structure Dk (w : World) (g L : Nat) (q : Option Nat) (s : D) : Prop where
  ok : s.Ok
  ex : ∃ cap v, w.heap[g]? = some (.cells #[.slice (some ⟨L, 0, none⟩) s.last.length cap, v, .int .i64 s.left] 61 (0, 0)) ∧ w.ownsRow 0 88 64 (.slice (some ⟨L, 0, none⟩) s.last.length cap) s.last.length (secV s.last) ∧ w.ownsRow 0 90 65 v s.buf.length (bufV s.buf) ∧ v.ownBlock = q
def Foot (g L : Nat) (q : Option Nat) (b : Nat) : Prop := b = g ∨ b = L ∨ q = some b
structure Chg (S : Nat → Prop) (w w' : World) : Prop where
  os : w'.os = w.os
  tape : w'.tape = w.tape
  output : w'.output = w.output
  size : w.heap.size ≤ w'.heap.size
  block : ∀ b, b < w.heap.size → ¬ S b → w'.heap[b]? = w.heap[b]?
theorem Chg.refl (S : Nat → Prop) (w : World) : Chg S w w := ⟨rfl, rfl, rfl, Nat.le_refl _, fun _ _ _ => rfl⟩
theorem Chg.trans {S S1 : Nat → Prop} {a b c : World} (h : Chg S a b) (k : Chg S1 b c) (hs : ∀ x, x < a.heap.size → S1 x → S x) : Chg S a c :=
  ⟨k.os.trans h.os, k.tape.trans h.tape, k.output.trans h.output, Nat.le_trans h.size k.size, fun x hx hn => (k.block x (Nat.lt_of_lt_of_le hx h.size) (fun e => hn (hs x hx e))).trans (h.block x hx hn)⟩
theorem Chg.of_below {S : Nat → Prop} {w w' : World} (h : Below w.heap.size w w') : Chg S w w' := ⟨h.os, h.tape, h.output, h.size, fun b hb _ => h.block b hb⟩
theorem Chg.below {S : Nat → Prop} {w0 w w' : World} {B : Nat} (h : Below B w0 w) (k : Chg S w w') (hB : B ≤ w.heap.size) (hS : ∀ b, S b → B ≤ b) : Below B w0 w' :=
  h.trans ⟨k.os, k.tape, k.output, k.size, fun b hb => k.block b (by omega) (fun e => by have := hS b e; omega)⟩
theorem Chg.drew {S : Nat → Prop} {a w : World} (h : Chg S a w) : Chg S a w.drew := ⟨h.os, h.tape, h.output, h.size, h.block⟩
theorem Chg.setCell {S : Nat → Prop} {a w : World} (h : Chg S a w) {p : Addr} (hp : S p.block ∨ a.heap.size ≤ p.block) (u : Value) : Chg S a (w.setCell p u) :=
  ⟨h.os, h.tape, h.output, by simpa [World.setCell] using h.size, fun b hb hn => by
    rw [Below.heap_setCell _ _ _ _ (fun e => by subst e; rcases hp with hp | hp; exact hn hp; omega)]
    exact h.block b hb hn⟩
theorem Chg.setCells {S : Nat → Prop} {a w : World} (h : Chg S a w) {g : Nat} (hp : S g ∨ a.heap.size ≤ g) (o : Nat) (vs : List Value) : Chg S a (w.setCells g o vs) := by
  obtain ⟨h1, h2, h3, h4⟩ := setCells_keeps g vs o w
  exact ⟨h1.trans h.os, h2.trans h.tape, h3.trans h.output, by rw [h4]; exact h.size, fun b hb hn => by
    rw [heap_setCells_other g b (fun e => by subst e; rcases hp with hp | hp; exact hn hp; omega)]
    exact h.block b hb hn⟩
theorem Chg.alloc {S : Nat → Prop} {a w : World} (h : Chg S a w) (o : Obj) : Chg S a (w.alloc o) :=
  ⟨h.os, h.tape, h.output, by have := h.size; simp; omega, fun b hb hn => by
    rw [Below.heap_alloc _ _ _ (by have := h.size; omega)]
    exact h.block b hb hn⟩
theorem Chg.grown {S : Nat → Prop} {a w w' : World} {row : Option Nat} (h : Chg S a w) (k : w.grownBy w' row) (hr : ∀ b, row = some b → S b ∨ a.heap.size ≤ b) : Chg S a w' :=
  ⟨k.os.trans h.os, k.tape.trans h.tape, k.output.trans h.output, Nat.le_trans h.size k.size, fun b hb hn => by
    rw [k.block b (by have := h.size; omega) (fun e => by rcases hr b e.symm with h1 | h1; exact hn h1; omega)]
    exact h.block b hb hn⟩
theorem Chg.mono {S S1 : Nat → Prop} {w w' : World} (h : Chg S w w') (hs : ∀ x, S x → S1 x) : Chg S1 w w' := ⟨h.os, h.tape, h.output, h.size, fun b hb hn => h.block b hb (fun e => hn (hs b e))⟩

section
variable {w w' : World} {g L : Nat} {q : Option Nat} {s : D}
theorem Dk.frame (h : Dk w g L q s) (hk : ∀ b, Foot g L q b → w'.heap[b]? = w.heap[b]?) : Dk w' g L q s := by
  obtain ⟨ok, cap, v, hg, hL, hB, rfl⟩ := h
  exact ⟨ok, cap, v, by rw [hk g (.inl rfl)]; exact hg, own_keep hL (fun b hb => hk b (.inr (.inl (by simpa [Value.ownBlock] using hb.symm)))), own_keep hB (fun b hb => hk b (.inr (.inr hb))), rfl⟩
theorem Dk.lt (h : Dk w g L q s) : ∀ b, Foot g L q b → b < w.heap.size := by
  obtain ⟨ok, cap, v, hg, hL, hB, rfl⟩ := h
  rintro b (rfl | rfl | hb)
  · exact (Array.getElem?_eq_some_iff.1 hg).1
  · exact (hL.lt b rfl).2
  · exact (hB.lt b hb).2
theorem Dk.below (h : Dk w g L q s) (hb : Below w.heap.size w w') : Dk w' g L q s := h.frame fun b hf => hb.block b (h.lt b hf)
theorem Dk.drew (h : Dk w g L q s) : Dk w.drew g L q s := h.frame fun _ _ => rfl
theorem Dk.alloc (h : Dk w g L q s) (o : Obj) : Dk (w.alloc o) g L q s := h.below ((Below.refl _ _).alloc (Nat.le_refl _) o)
/-- blocks of other types are not the disk's -/
theorem Dk.other (h : Dk w g L q s) {b : Nat} {C : Array Value} {t : TypeId} {fr : Nat × Nat} (hb : w.heap[b]? = some (.cells C t fr)) (h1 : t ≠ 61) (h2 : t ≠ 88) (h3 : t ≠ 90) : ¬ Foot g L q b := by
  obtain ⟨ok, cap, v, hg, hL, hB, rfl⟩ := h
  rintro (rfl | rfl | hf)
  · rw [hb] at hg; injection hg with hg; injection hg with _ hg; exact h1 hg
  · obtain ⟨cur, hc, _⟩ := own_block hL
    rw [hb] at hc; injection hc with hc; injection hc with _ hc; exact h2 hc
  · rcases hB.2 with ⟨rfl, _⟩ | ⟨g', cap', cur, rfl, _, hc, _⟩
    · cases hf
    · injection hf with hf
      subst hf
      simp only at hb
      rw [hb] at hc; injection hc with hc; injection hc with _ hc; exact h3 hc
end

/-- what a call on a disk leaves -/
def After (w w' : World) (g L : Nat) (q : Option Nat) (s : D) : Prop := ∃ q', Dk w' g L q' s ∧ Chg (Foot g L q) w w' ∧ ∀ k, q' = some k → q = some k ∨ w.heap.size ≤ k
theorem After.foot {w : World} {g L : Nat} {q q' : Option Nat} (hq : ∀ k, q' = some k → q = some k ∨ w.heap.size ≤ k) : ∀ x, x < w.heap.size → Foot g L q' x → Foot g L q x := by
  rintro x hx (rfl | rfl | h)
  · exact .inl rfl
  · exact .inr (.inl rfl)
  · rcases hq x h with h | h
    · exact .inr (.inr h)
    · omega
theorem After.same {w w' : World} {g L : Nat} {q : Option Nat} {s : D} (h : Dk w g L q s) (hb : Below w.heap.size w w') : After w w' g L q s := ⟨q, h.below hb, .of_below hb, fun _ h => .inl h⟩
end Go.Proofs.Ytbfhlleipeipbaa
