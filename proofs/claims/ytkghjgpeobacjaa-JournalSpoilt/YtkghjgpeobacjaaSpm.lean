/-
  What is proved: plain facts on frames of which some bytes are turned. No condition but those in each statement.
-/
import Derived.Test.YtkghjgpeobacjaaJh
namespace Go.Proofs.Ytkghjgpeobacjaa
open Go.RowKit

/-- what stands there, with other bytes in one frame's place -/
def Zx (pre post : List (List UInt8)) (b xs : List UInt8) : List UInt8 := framesOf pre ++ ((dig (b.length : Int) ++ dig ((crc b : Nat) : Int) ++ xs) ++ framesOf post)
theorem framesOf_append (a b : List (List UInt8)) : framesOf (a ++ b) = framesOf a ++ framesOf b := by simp [framesOf]
theorem Zx_self (pre post : List (List UInt8)) (b : List UInt8) : framesOf (pre ++ b :: post) = Zx pre post b b := by
  rw [framesOf_append, framesOf_cons]
  rfl
theorem firstOf_head (n : Nat) (c : Int) (xs r : List UInt8) (hn : n = xs.length) (hb : xs.length ≤ 1099511627776) (h1 : 0 ≤ c) (h2 : c < 4294967296) : firstOf ((dig (n : Int) ++ dig c ++ xs) ++ r) = if c = ((crc xs : Nat) : Int) then some xs else none := by
  subst hn
  have e1 : ((dig (xs.length : Int) ++ dig c ++ xs) ++ r).take 8 = dig (xs.length : Int) := by
    simp only [List.append_assoc]
    rw [List.take_append_of_le_length (by rw [dig_length]; omega), List.take_of_length_le (by rw [dig_length]; omega)]
  have e2 : ((dig (xs.length : Int) ++ dig c ++ xs) ++ r).drop 8 = dig c ++ (xs ++ r) := by
    simp only [List.append_assoc]
    rw [List.drop_append_of_le_length (by rw [dig_length]; omega), List.drop_of_length_le (by rw [dig_length]; omega), List.nil_append]
  have e3 : ((dig (xs.length : Int) ++ dig c ++ xs) ++ r).drop 16 = xs ++ r := by
    have : ((dig (xs.length : Int) ++ dig c ++ xs) ++ r).drop 16 = (((dig (xs.length : Int) ++ dig c ++ xs) ++ r).drop 8).drop 8 := by rw [List.drop_drop]
    rw [this, e2, List.drop_append_of_le_length (by rw [dig_length]; omega), List.drop_of_length_le (by rw [dig_length]; omega), List.nil_append]
  have l0 : ((dig (xs.length : Int) ++ dig c ++ xs) ++ r).length = 16 + xs.length + r.length := by
    simp only [List.length_append, dig_length]
  generalize (dig (xs.length : Int) ++ dig c ++ xs) ++ r = L at *
  have l1 : lenOf L = xs.length := by unfold lenOf; rw [e1, rd_dig _ (by omega) (by omega)]
  have l2 : sumOf L = c := by
    unfold sumOf; rw [e2, List.take_append_of_le_length (by rw [dig_length]; omega), List.take_of_length_le (by rw [dig_length]; omega), rd_dig _ (by omega) (by omega)]
  have l3 : bodyOf L = xs := by
    unfold bodyOf; rw [e3, l1, Int.toNat_natCast, List.take_append_of_le_length (Nat.le_refl _), List.take_length]
  have l4 : ¬ badLen L := by
    unfold badLen
    rw [l1, l0]
    omega
  unfold firstOf
  rw [if_neg l4, l2, l3]
theorem split_spoilt (pre post : List (List UInt8)) (b xs : List UInt8) (hp : ∀ c ∈ pre, c.length ≤ 1099511627776) (hb : b.length ≤ 1099511627776) (hl : xs.length = b.length) (hc : crc xs ≠ crc b) : splitOf (Zx pre post b xs) = none := by
  have hcb := crc_lt b
  unfold Zx
  rw [splitOf_frames_more pre _ hp, splitOf_none, Option.map_none]
  · intro h
    have := congrArg List.length h
    simp only [List.length_append, dig_length, List.length_nil] at this
    omega
  · rw [firstOf_head b.length _ xs _ hl.symm (by omega) (by omega) (by omega), if_neg]
    intro h
    exact hc (by omega)
/-- one byte of the frame's own -/
theorem Zx_set (pre post : List (List UInt8)) (b xs : List UInt8) (q : Nat) (hq : q < xs.length) (v : UInt8) : (Zx pre post b xs).set ((framesOf pre).length + 16 + q) v = Zx pre post b (xs.set q v) := by
  unfold Zx
  have hd : (dig (b.length : Int) ++ dig ((crc b : Nat) : Int)).length = 16 := by simp only [List.length_append, dig_length]
  rw [Nat.add_assoc, List.set_append, if_neg (by omega), show (framesOf pre).length + (16 + q) - (framesOf pre).length = 16 + q by omega]
  rw [List.set_append, if_pos (by rw [List.length_append, hd]; omega), List.set_append, if_neg (by omega), hd, show 16 + q - 16 = q by omega]
theorem Zx_get (pre post : List (List UInt8)) (b xs : List UInt8) (q : Nat) (hq : q < xs.length) : (Zx pre post b xs)[(framesOf pre).length + 16 + q]? = xs[q]? := by
  unfold Zx
  have hd : (dig (b.length : Int) ++ dig ((crc b : Nat) : Int)).length = 16 := by simp only [List.length_append, dig_length]
  rw [List.getElem?_append_right (by omega), List.getElem?_append_left (by rw [List.length_append, hd]; omega), List.getElem?_append_right (by omega), hd]
  congr 1
  omega

/-! ### a disk of which one byte is turned -/
theorem flat_setByte {s : D} (h : s.Ok) (hu : s.left < 0) {p : Nat} (hp : p < 64 * s.last.length) (v : UInt8) :
    (s.wSt ((p / 64 : Nat) : Int) ((s.told (p / 64)).set (p % 64) v)).flat = s.flat.set p v ∧ s.refuse ((p / 64 : Nat) : Int) = 0 ∧ s.wErr ((p / 64 : Nat) : Int) 64 = 0 ∧
    (s.wSt ((p / 64 : Nat) : Int) ((s.told (p / 64)).set (p % 64) v)) = ⟨s.last, s.buf ++ [(p / 64, (s.told (p / 64)).set (p % 64) v)], s.left⟩ := by
  have hk : p / 64 < s.last.length := by omega
  have hr : s.refuse ((p / 64 : Nat) : Int) = 0 := by rw [refuse_in hk, if_neg (by omega)]
  have ht := h.told_len hk
  have hl : ((s.told (p / 64)).set (p % 64) v).length = 64 := by rw [List.length_set]; exact ht
  have hpad : pad ((s.told (p / 64)).set (p % 64) v) = (s.told (p / 64)).set (p % 64) v := by unfold pad; rw [hl]; simp
  have e : s.wSt ((p / 64 : Nat) : Int) ((s.told (p / 64)).set (p % 64) v) = ⟨s.last, s.buf ++ [(p / 64, (s.told (p / 64)).set (p % 64) v)], s.left⟩ := by
    rw [wSt_zero hr (by omega), hpad, tick_up hu, Int.toNat_natCast]
  refine ⟨?_, hr, wErr_zero hr (by omega), e⟩
  rw [e]
  show (settle s.last (s.buf ++ [(p / 64, (s.told (p / 64)).set (p % 64) v)])).flatten = _
  rw [settle_snoc]
  show ((settle s.last s.buf).set (p / 64) ((s.told (p / 64)).set (p % 64) v)).flatten = _
  have hS : (settle s.last s.buf).length = s.last.length := settle_length _ _
  have hfl := h.flat_len
  rw [flat_set 64 _ h.sets (p / 64) (by omega) _ hl]
  show splice s.flat _ _ = _
  apply List.ext_getElem?
  intro i
  rw [splice_get _ _ _ _ (by omega), hl, List.getElem?_set (l := s.flat)]
  by_cases hi : p = i
  · subst hi
    rw [if_neg (by omega), if_pos (by omega), if_pos rfl, if_pos (by omega), List.getElem?_set, if_pos (by omega), if_pos (by omega)]
  · rw [if_neg hi]
    by_cases h1 : i < p / 64 * 64
    · rw [if_pos h1]
    · rw [if_neg h1]
      by_cases h2 : i < p / 64 * 64 + 64
      · rw [if_pos h2, List.getElem?_set, if_neg (by omega), h.told_flat hk, List.getElem?_take, if_pos (by omega), List.getElem?_drop]
        congr 1
        omega
      · rw [if_neg h2]
/-- a disk on which a frame's bytes are turned, up to here -/
structure Turned (d : D) (en m : Nat) (Z : List UInt8) : Prop where
  ok : d.Ok
  up : d.left = -1
  buf : d.buf.length ≤ m
  len : d.last.length = 100
  area : d.flat.take en = Z
theorem Turned.step {d : D} {en m : Nat} {pre post : List (List UInt8)} {b xs : List UInt8} (h : Turned d en m (Zx pre post b xs)) (hen : en ≤ 6400) {q : Nat} (hq : q < xs.length) (hin : (framesOf pre).length + 16 + q < en) (v : UInt8) {p : Nat} (hp : p = (framesOf pre).length + 16 + q) :
    d.refuse ((p / 64 : Nat) : Int) = 0 ∧ d.wErr ((p / 64 : Nat) : Int) 64 = 0 ∧ (d.told (p / 64))[p % 64]? = xs[q]? ∧ (d.told (p / 64)).length = 64 ∧ Turned (d.wSt ((p / 64 : Nat) : Int) ((d.told (p / 64)).set (p % 64) v)) en (m + 1) (Zx pre post b (xs.set q v)) := by
  have hl := h.len
  obtain ⟨f1, f2, f3, f4⟩ := flat_setByte h.ok (by rw [h.up]; decide) (p := p) (by omega) v
  have hk : p / 64 < d.last.length := by omega
  have hg : (d.told (p / 64))[p % 64]? = xs[q]? := by
    rw [h.ok.told_flat hk, List.getElem?_take, if_pos (by omega), List.getElem?_drop, show 64 * (p / 64) + p % 64 = p by omega]
    have : (d.flat.take en)[p]? = d.flat[p]? := by rw [List.getElem?_take, if_pos (by omega)]
    rw [← this, h.area, hp, Zx_get pre post b xs q hq]
  refine ⟨f2, f3, hg, h.ok.told_len hk, ?_⟩
  have hok := h.ok.wSt ((p / 64 : Nat) : Int) ((d.told (p / 64)).set (p % 64) v)
  refine ⟨hok, by rw [f4]; exact h.up, by rw [f4]; simp; exact h.buf, by rw [f4]; exact hl, ?_⟩
  rw [f1, List.take_set, h.area, hp, Zx_set pre post b xs q hq]
/-- what Open tells of it -/
theorem Turned.area0 {d : D} {en m : Nat} {Z : List UInt8} (h : Turned d en m Z) (hen : en ≤ 6400) : d.area 0 en = Z := by
  have hl := h.len
  rw [h.ok.area_flat (by omega), Nat.mul_zero, List.drop_zero, h.area]
theorem Has.en {x : JS} {fs : List (List UInt8)} (h : Has x fs) : x.en = (framesOf fs).length := by
  have hs := h.ok.sectors
  have hf := h.dok.flat_len
  have := congrArg List.length h.area
  rw [h.dok.area_flat hs, List.length_take, List.length_drop] at this
  omega
def stOf (fs : List (List UInt8)) : List Int := (List.range fs.length).map fun i => ((framesOf (fs.take i)).length : Int) + 16
def szOf (fs : List (List UInt8)) : List Int := fs.map fun b => (b.length : Int)
theorem stOf_snoc (fs : List (List UInt8)) (b : List UInt8) : stOf (fs ++ [b]) = stOf fs ++ [((framesOf fs).length : Int) + 16] := by
  unfold stOf
  rw [List.length_append, List.length_singleton, List.range_succ, List.map_append]
  congr 1
  · refine List.map_congr_left fun i hi => ?_
    rw [List.take_append_of_le_length (by have := List.mem_range.1 hi; omega)]
  · simp
theorem szOf_snoc (fs : List (List UInt8)) (b : List UInt8) : szOf (fs ++ [b]) = szOf fs ++ [(b.length : Int)] := by simp [szOf]
theorem stOf_length (fs : List (List UInt8)) : (stOf fs).length = fs.length := by simp [stOf]
theorem szOf_length (fs : List (List UInt8)) : (szOf fs).length = fs.length := by simp [szOf]
theorem stOf_get (fs : List (List UInt8)) (k : Nat) (h : k < fs.length) : (stOf fs)[k]? = some (((framesOf (fs.take k)).length : Int) + 16) := by simp [stOf, h]
theorem szOf_get (fs : List (List UInt8)) (k : Nat) (h : k < fs.length) : (szOf fs)[k]? = some (fs[k].length : Int) := by simp [szOf, h]
theorem parted (fs : List (List UInt8)) (k : Nat) (h : k < fs.length) : fs = fs.take k ++ fs[k] :: fs.drop (k + 1) := by
  rw [← List.drop_eq_getElem_cons h, List.take_append_drop]
/-- where a frame's bytes end is not behind the journal's end -/
theorem place_in (fs : List (List UInt8)) (k : Nat) (h : k < fs.length) : (framesOf (fs.take k)).length + 16 + fs[k].length ≤ (framesOf fs).length := by
  have := congrArg (fun l => (framesOf l).length) (parted fs k h)
  simp only [framesOf_append, framesOf_cons, List.length_append, frameOf_length] at this
  omega
end Go.Proofs.Ytkghjgpeobacjaa
