/-
  What is proved: a builder in memory (its contracts in the words of these texts); runs of a loop of plain functions; contracts of markup's upTo. Conditions: those in each statement.
-/
import Derived.Test.YtbokcihlbpeagaaGreatDoorRi
namespace Go.Proofs.YtbokcihlbpeagaaGreatDoor
open Go.RowKit

/-- a strings.Builder in block b, all its memory from b on, holding these bytes -/
def Bd (w : World) (b : Nat) (l : List UInt8) : Prop := Lib.IsBuilder 79 5 b b (Lib.byteCells l) w
theorem Bd.new (w : World) : Bd (w.alloc (.cells #[.pointer none, .slice none 0 0] 79)) w.heap.size [] := Lib.fresh_isBuilder _ _ w
theorem Bd.drew {w : World} {b : Nat} {l : List UInt8} (h : Bd w b l) : Bd w.drew b l := h
theorem Bd.drewN {w : World} {b : Nat} {l : List UInt8} (h : Bd w b l) (n : Nat) : Bd (w.drewN n) b l := h
theorem Bd.at {w : World} {b : Nat} {l : List UInt8} (h : Bd w b l) : ∃ q, Lib.BuilderAt 79 5 b b q (Lib.byteCells l) w := by
  rcases h with h | h
  · exact ⟨_, h⟩
  · exact ⟨_, h⟩
theorem Bd.lt {w : World} {b : Nat} {l : List UInt8} (h : Bd w b l) : b < w.heap.size := by obtain ⟨q, h⟩ := h.at; exact h.lt
theorem BuilderAt_mv {w w' : World} {b p : Nat} {q : Value} {l : List Value} (h : Lib.BuilderAt 79 5 b b q l w) (hm : Mv p w w') (hp : p < b) : Lib.BuilderAt 79 5 b b q l w' := by
  have hlt := h.lt
  obtain ⟨hB, v, hb, hown, hne⟩ := h
  refine ⟨hB, v, ?_, ?_, hne⟩
  · rw [hm.block b hlt (by omega)]; exact hb
  · refine hown.kept (row := some p) ⟨hm.os, hm.tape, hm.output, hm.size, fun k hk hn => hm.block k hk (fun e => hn (by rw [e]))⟩ (Or.inr ?_)
    rcases hown.2 with ⟨rfl, _⟩ | ⟨g, cap, cur, rfl, hg, _⟩
    · simp [Value.ownBlock]
    · simp [Value.ownBlock]; omega
theorem Bd.mv {w w' : World} {b p : Nat} {l : List UInt8} (h : Bd w b l) (hm : Mv p w w') (hp : p < b) : Bd w' b l := by
  rcases h with h | h
  · exact .inl (BuilderAt_mv h hm hp)
  · exact .inr (BuilderAt_mv h hm hp)
theorem writeS (w : World) (b : Nat) (l x : List UInt8) (h : Bd w b l) (hl : l.length + x.length ≤ 1048576) :
    Calls Tryz.prog 50 #[.pointer (some ⟨b, 0, none⟩), strV x] w fun e w' => e = .returned (.tuple #[.int .i64 (x.length : Int), .nilIface]) ∧ Bd w' b (l ++ x) ∧ Below b w w' := by
  have hx : (⟨x.toArray⟩ : ByteArray).size = x.length := by rw [← size_toList]
  refine (Any.Builder_WriteString Tryz.layB166 Tryz.Builder_Extra_155 b b (Lib.byteCells l) ⟨x.toArray⟩ w h (by rw [Lib.byteCells_length, hx]; omega) (Nat.le_of_lt h.lt)).mono ?_
  rintro e w' ⟨rfl, h1, h2⟩
  refine ⟨by rw [hx], .inr ?_, h2⟩
  rw [Lib.byteCells_append]
  exact h1
theorem stringS (w : World) (b : Nat) (l : List UInt8) (h : Bd w b l) :
    Calls Tryz.prog 52 #[.pointer (some ⟨b, 0, none⟩)] w fun e w' => e = .returned (strV l) ∧ Below b w w' :=
  Tryz.Builder_String_any b b l w h (Nat.le_of_lt h.lt)

section
variable {α : Type} {stop : List UInt8 → Bool} {step : Nat → List UInt8 → Out α}
/-- so far: n bytes taken, these things read -/
def Run (stop : List UInt8 → Bool) (step : Nat → List UInt8 → Out α) (k : Nat) (l : List UInt8) (n : Nat) (zs : List α) : Prop := loop stop step k l = (loop stop step (k + n) (l.drop n)).pres zs n
theorem Run.start (k : Nat) (l : List UInt8) : Run stop step k l 0 [] := by unfold Run; rw [Out.pres_nil]; rfl
theorem Run.on (G : Good stop step) {k : Nat} {l : List UInt8} {n : Nat} {zs : List α} (h : Run stop step k l n zs) {a : α} {m : Nat} (hs : stop (l.drop n) = false) (hq : step (k + n) (l.drop n) = .ok a m) : Run stop step k l (n + m) (zs ++ [a]) := by
  unfold Run at h ⊢
  rw [h, loop_ok G hs hq, Out.pres_pres, List.drop_drop, Nat.add_assoc]
theorem Run.done {k : Nat} {l : List UInt8} {n : Nat} {zs : List α} (h : Run stop step k l n zs) (hs : stop (l.drop n) = true) : loop stop step k l = .ok zs n := by
  unfold Run at h
  rw [h, loop_stop _ hs]
  simp [Out.pres]
theorem Run.bad {k : Nat} {l : List UInt8} {n : Nat} {zs : List α} (h : Run stop step k l n zs) {d : Nat} {c : Int} (hs : stop (l.drop n) = false) (hq : step (k + n) (l.drop n) = .bad d c) : loop stop step k l = .bad (d + n) c := by
  unfold Run at h
  rw [h, loop_bad hs hq]
  rfl
theorem Run.un {k : Nat} {l : List UInt8} {n : Nat} {zs : List α} (h : Run stop step k l n zs) (hs : stop (l.drop n) = false) (hq : step (k + n) (l.drop n) = .un) : loop stop step k l = .un := by
  unfold Run at h
  rw [h, loop_un hs hq]
  rfl
end
theorem put_len4 (r : Int) : (put r).length ≤ 4 := by
  rw [put_length]
  by_cases h : isR r
  · exact (sz_pos h).2
  · rw [sz_not h]; omega
theorem meanN_len (B : Nat) (l : List UInt8) : (meanN B l).length ≤ 4 := by
  unfold meanN
  split
  · simp
  · split
    · split
      · exact put_len4 _
      · simp
    · simp
theorem mean_len (x : List UInt8) : (mean x).length ≤ 4 := by
  unfold mean
  repeat (first | exact meanN_len _ _ | (split; · simp) | simp)
  split
  · exact meanN_len _ _
  · split
    · exact meanN_len _ _
    · simp
theorem pieceO_len {l : List UInt8} {a : List UInt8} {n : Nat} (h : pieceO l = .ok a n) : a.length ≤ 4 := by
  unfold pieceO at h
  by_cases h1 : hd l = 38
  · rw [if_pos h1] at h
    unfold refO at h
    by_cases hc : 0 ≤ Lib.index l [59] ∧ mean (l.take (Lib.index l [59]).toNat) ≠ []
    · rw [if_pos hc] at h; cases h; exact mean_len _
    · rw [if_neg hc] at h; cases h
  · rw [if_neg h1] at h
    by_cases h2 : hd l = 13
    · rw [if_pos h2] at h; cases h; simp
    · rw [if_neg h2] at h; cases h; rw [List.length_take]; omega

set_option maxHeartbeats 2000000 in
set_option maxRecDepth 100000 in
theorem upTo_any (w : World) (p : Nat) (s : ByteArray) (k f : Nat) (m : Value) (pt : ByteArray) (hpt : pt.size ≤ 10) (h : Rd w p s k f m) (hG : Glob w) (hk : k ≤ s.size) (hs : s.size ≤ 65536) :
    Calls Tryz.prog 62 #[.pointer (some ⟨p, 0, none⟩), .string pt] w (RdPost w p s k f m (upO pt.data.toList (tl s k)) strV) := by
  obtain ⟨mx, hmx⟩ := hG.mx
  have c0 := h.c0
  have c1 := h.c1
  have z1 := h.z 1
  have HCut := Lib.hid (fun n => Tryz.strings_Cut (s.extract k s.size) pt mx (w.drewN n) (by rw [← size_toList, ext_tl s k hk, tl_length]; omega) hmx)
  rw [ext_tl s k hk] at HCut
  have HU := Lib.hid (fun W hW => unended_any W p s k f m hW)
  have HR := Lib.hid h
  by_cases h0 : 0 ≤ Lib.index (tl s k) pt.data.toList
  · rw [cut_yes h0] at HCut
    have hr := Lib.index_room (tl s k) pt.data.toList h0
    rw [tl_length, size_toList] at hr
    have hl : ((tl s k).take (Lib.index (tl s k) pt.data.toList).toNat).length = (Lib.index (tl s k) pt.data.toList).toNat := by rw [List.length_take, tl_length]; omega
    rw [show upO pt.data.toList (tl s k) = .ok ((tl s k).take (Lib.index (tl s k) pt.data.toList).toNat) ((Lib.index (tl s k) pt.data.toList).toNat + pt.data.toList.length) by unfold upO; rw [if_pos h0], size_toList]
    have HB : Hid ((((tl s k).take (Lib.index (tl s k) pt.data.toList).toNat).length : Int) ≤ s.size - k ∧ s.size ≤ 65536 ∧ k ≤ s.size ∧ pt.size ≤ 10) := Lib.hid ⟨by rw [hl]; omega, hs, hk, hpt⟩
    have HL := Lib.hid hl
    clear h hG hmx hr hl hs h0 hpt HU
    generalize (tl s k).take (Lib.index (tl s k) pt.data.toList).toNat = b at *
    generalize (tl s k).drop ((Lib.index (tl s k) pt.data.toList).toNat + pt.data.toList.length) = X at *
    generalize (Lib.index (tl s k) pt.data.toList).toNat = j at *
    go_enter Tryz.func62, Tryz.ntmps62
    go_wp2
    go_quiet ((go_at_call 80; exact Calls.quiet_of (HCut.out _)))
    go_wp2
    go_ret
    exact ⟨rfl, (HR.out.drewN nq).at1 (by have := HB.out; have e := HL.out; subst e; rw [Go.IntWalk.wrap64_in ((b.length : Int) + (pt.size : Int)) (by omega), Go.IntWalk.wrap64_in _ (by omega)]; push_cast; rfl), ((Mv.refl p w).drewN nq).set 1 _⟩
  · rw [cut_no h0] at HCut
    rw [show upO pt.data.toList (tl s k) = .un by unfold upO; rw [if_neg h0]]
    clear h hG hmx hs h0 hpt
    go_enter Tryz.func62, Tryz.ntmps62
    go_wp2
    go_quiet ((go_at_call 80; exact Calls.quiet_of (HCut.out _)))
    go_wp2_with (go_at_call 81; refine (HU.out _ (HR.out.drewN nq)).mono ?_; rintro e w2 ⟨rfl, rfl⟩)
    exact ⟨rfl, rfl, (Mv.refl p w).drewN nq⟩
end Go.Proofs.YtbokcihlbpeagaaGreatDoor
