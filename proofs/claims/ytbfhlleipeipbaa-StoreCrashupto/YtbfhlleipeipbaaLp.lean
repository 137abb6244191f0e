/-
  What is proved: the contract of store.lastOfEach: of each key the last change, by rising keys, in new memory. Conditions: those in each statement.
-/
import Derived.Test.YtbfhlleipeipbaaLo
import Derived.Test.YtbfhlleipeipbaaLm
import Derived.RangeFuncBox
namespace Go.Proofs.Ytbfhlleipeipbaa
open Go.Shelf Go.RowKit Go.Lib Go.Sort

theorem info52 : (Try.prog.info? 52).map (fun i => (i.zero, i.size, i.bytes)) = some (some (.agg #[.string ⟨#[]⟩, .string ⟨#[]⟩, .bool false]), 3, 40) := by kernel_rfl
theorem info52' : ∃ i0, Try.prog.info? 52 = some i0 ∧ i0.zero = some (.agg #[.string ⟨#[]⟩, .string ⟨#[]⟩, .bool false]) ∧ i0.size = 3 ∧ i0.bytes = 40 := by
  have h := info52
  cases hi : Try.prog.info? 52 with
  | none => rw [hi] at h; cases h
  | some i0 =>
    rw [hi] at h
    simp only [Option.map_some, Option.some.injEq, Prod.mk.injEq] at h
    exact ⟨i0, rfl, h.1, h.2.1, h.2.2⟩
theorem clone_some (b o n c : Nat) (l : List Cg) (w : World) (hl : l.length = n) (hb : n * 40 ≤ 140737488355328) (hn : n ≤ maxLen) (hc : ∀ j u, (chV l)[j]? = some u → w.cell? ⟨b, o + j, none⟩ = some u) :
    Calls Try.prog 42 #[.slice (some ⟨b, o, none⟩) n c] w fun e w' => ∃ v', e = .returned v' ∧ w'.ownsRow w.heap.size 52 3 v' n (chV l) ∧ v' ≠ .slice none 0 0 ∧ Below w.heap.size w w' := by
  obtain ⟨i0, hi, h0, h1, h2⟩ := info52'
  have h := AnyE.slices_Clone Try.cloneLay i0 _ 3 40 hi h0 h1 h2 rfl (by decide) Try.sizeOf52 b o n c (chV l) w (by rw [chV_length, hl]) hn hb hc (chV_one l)
  exact h
theorem clone_nil (n c : Nat) (w : World) : Calls Try.prog 42 #[.slice none n c] w fun e w' => e = .returned (.slice none 0 0) ∧ w' = w := AnyE.slices_Clone_nil Try.cloneLay n c w
theorem rev_some (blk off cap : Nat) (d : Array Cg) (w : World) (R : RowK encC 3 w blk off d) (hsz : d.size ≤ 9223372036854775807) :
    Calls Try.prog 93 #[.slice (some ⟨blk, off, none⟩) d.size cap] w fun e w' => e = .returned (.tuple #[]) ∧ SWK encC 3 w blk off d.reverse w' := by
  have h := AnyQ.slices_Reverse Try.revLay 3 Try.isAgg52 Try.sizeOf52 encC R.hk R.h1 blk off cap d w R.hH hsz
  change Calls Try.prog 93 _ _ _ at h
  refine h.mono ?_
  rintro e w' ⟨rfl, n, rfl⟩
  exact ⟨rfl, n, #[], by unfold sortWorldK; rw [grow_empty]⟩
theorem last2_enters : ∀ args w, (callFunc 97 args).run Try.prog w = .ok (.enter 97 args) w := enters_of Try.func97 (by kernel_rfl) rfl
/-- A row's beginning. -/
theorem holdsK_take {w : World} {b o n : Nat} {d : Array Cg} {L : List Cg} (h : HoldsK encC 3 w b o d) (hn : L.length = n) (hd : n ≤ d.size) (he : seg d 0 n = L) : HoldsK encC 3 w b o L.toArray := fun t ht => by
  have ht' : t < n * 3 := by rw [← hn]; simpa using ht
  have hd3 : t / 3 < n := by omega
  have h1 := h t (by rw [size_flatK]; omega)
  rw [get_flatK _ _ _ t (by omega)] at h1
  rw [get_flatK _ _ _ t (by simpa using ht)]
  have : L.toArray[t / 3]! = d[t / 3]! := by
    subst he
    have hl : t / 3 < (seg d 0 n).length := by rw [seg_length]; exact hd3
    rw [show (seg d 0 n).toArray[t / 3]! = (seg d 0 n)[t / 3] by simp [hl], seg_get, Nat.zero_add]
  rw [this]; exact h1

set_option maxHeartbeats 2000000 in
theorem lastOfEach_none (A : Option Addr) (c : Nat) (w : World) (hA : A = none ∨ ∃ b o, A = some ⟨b, o, none⟩) : Calls Try.prog 76 #[.slice A 0 c] w fun e w' => ∃ A' c', e = .returned (.slice A' 0 c') ∧ (A' = none ∨ ∃ b o, A' = some ⟨b, o, none⟩) ∧ Below w.heap.size w w' := by
  have hcl : Calls Try.prog 42 #[.slice A 0 c] w fun e w' => ∃ A' c', e = .returned (.slice A' 0 c') ∧ (A' = none ∨ ∃ b o, A' = some ⟨b, o, none⟩) ∧ Below w.heap.size w w' := by
    rcases hA with rfl | ⟨b, o, rfl⟩
    · exact (clone_nil 0 c w).mono fun e w' ⟨he, hw⟩ => ⟨none, 0, he, .inl rfl, by rw [hw]; exact Below.refl _ _⟩
    · refine (clone_some b o 0 c [] w rfl (by omega) (by unfold maxLen; omega) (fun j u hu => by simp [chV] at hu)).mono ?_
      rintro e w' ⟨v', rfl, ho, hv, hb⟩
      rcases ho.2 with ⟨h0, _⟩ | ⟨g, cap, cur, rfl, _⟩
      · exact absurd h0 hv
      · exact ⟨_, cap, rfl, .inr ⟨g, 0, rfl⟩, hb⟩
  clear hA
  go_enter Try.func76, Try.ntmps76
  go_wp2_with (go_at_call 42; refine hcl.mono ?_; clear hcl; rintro e w1 ⟨A1, c1, rfl, hA1, hb1⟩)
  have HB : Aside (Below w.heap.size w w1) := hb1
  have HA : Aside (A1 = none ∨ ∃ b o, A1 = some ⟨b, o, none⟩) := hA1
  clear hb1 hA1
  go_wp2_with (first
    | (go_at_call 93; refine (rev_none A1 c1 _).mono ?_; rintro e w2 ⟨rfl, rfl⟩)
    | (go_at_call 94; refine (sort_none A1 c1 95 _).mono ?_; rintro e w2 ⟨rfl, rfl⟩)
    | (go_at_call 96; refine (compact_none A1 c1 97 _).mono ?_; rintro e w2 ⟨rfl, rfl⟩))
  go_ret
  exact ⟨A1, c1, rfl, HA.out, HB.out⟩

set_option maxHeartbeats 4000000 in
theorem lastOfEach_some (b o n c : Nat) (l : List Cg) (w : World) (hl : l.length = n) (hn0 : 0 < n) (hb : n * 40 ≤ 140737488355328) (hH : HoldsK encC 3 w b o l.toArray) :
    Calls Try.prog 76 #[.slice (some ⟨b, o, none⟩) n c] w fun e w' => ∃ A' n' c' L, e = .returned (.slice A' n' c') ∧ HC w' A' n' c' L ∧ LastOf l L ∧ n' ≤ n ∧ Below w.heap.size w w' := by
  have hcl := clone_some b o n c l w hl hb (by unfold maxLen; omega) (holdsK_cells hH)
  have HL : Aside (l.length = n) := hl
  clear hH hl
  go_enter Try.func76, Try.ntmps76
  go_wp2_with (go_at_call 42; refine hcl.mono ?_; clear hcl; rintro e w1 ⟨v1, rfl, ho1, hv1, hb1⟩)
  obtain ⟨m, rfl⟩ : ∃ m, n = m + 1 := ⟨n - 1, by omega⟩
  obtain ⟨q, cap, rfl⟩ := ownsRow_succ ho1
  have hq := ho1.lt q rfl
  have hcap : m + 1 ≤ cap := by
    rcases ho1.2 with ⟨_, h0⟩ | ⟨g, cp, cur, he, h1, h2, h3, h4, h5⟩
    · omega
    · cases he; omega
  have hK : HoldsK encC 3 w1 q 0 l.toArray := own_holdsK (base := w.heap.size) (cap := cap) (by rw [HL.out]; exact ho1)
  have R1 : RowK encC 3 w1 q 0 l.toArray := ⟨encC_len, encC_one, hK, hq.2⟩
  have hsz : l.toArray.size = m + 1 := by rw [← HL.out]; simp
  have hc2 := rev_some q 0 cap l.toArray w1 R1 (by rw [hsz]; omega)
  rw [hsz] at hc2
  have B1 : Aside (Below w.heap.size w w1) := hb1
  have Q : Aside (w.heap.size ≤ q ∧ q < w1.heap.size) := hq
  have RR : Aside (RowK encC 3 w1 q 0 l.toArray) := R1
  clear ho1 hv1 hb1 hq hK R1 hsz
  go_wp2_with (go_at_call 93; refine hc2.mono ?_; clear hc2; rintro e w2 ⟨rfl, hS2⟩)
  have hz2 : l.toArray.reverse.size = m + 1 := by rw [← HL.out]; simp
  have e2 : l.toArray.reverse = l.reverse.toArray := by simp
  have R2 : RowK encC 3 w2 q 0 l.toArray.reverse := ⟨encC_len, encC_one, hS2.holds Q.out.2 RR.out.hH (by simp), hS2.lt Q.out.2⟩
  have hc3 := sortStable_any q 0 cap l.toArray.reverse w2 R2 (by rw [hz2]; omega)
  rw [hz2] at hc3
  have B2 : Aside (Below w.heap.size w w2) := B1.out.trans (SWK.below hS2 Q.out.1 B1.out.size)
  have R2' : Aside (RowK encC 3 w2 q 0 l.toArray.reverse) := R2
  have Z2 : Aside (l.toArray.reverse.size = m + 1 ∧ l.toArray.reverse = l.reverse.toArray) := ⟨hz2, e2⟩
  clear hS2 R2 RR B1 hz2 e2
  go_wp2_with (go_at_call 94; refine hc3.mono ?_; clear hc3; rintro e w3 ⟨rfl, d3, hS3, hst3, hso3⟩)
  have hz3 : d3.size = m + 1 := hst3.1.trans Z2.out.1
  have R3 : RowK encC 3 w3 q 0 d3 := ⟨encC_len, encC_one, hS3.holds R2'.out.hblk R2'.out.hH hst3.1, hS3.lt R2'.out.hblk⟩
  have hc4 := compact_any sm_try Try.zeroValue52 97 keq q 0 cap d3 w3 last2_enters last2_any R3 (by rw [hz3]; omega) (by rw [hz3]; exact hcap)
  rw [hz3] at hc4
  have B3 : Aside (Below w.heap.size w w3) := B2.out.trans (SWK.below hS3 Q.out.1 B2.out.size)
  have X3 : Aside (RowK encC 3 w3 q 0 d3 ∧ d3.size = m + 1 ∧ LastOf l (kept keq d3 (m + 1))) := ⟨R3, hz3, by
    have h1 := hst3
    have h2 := hso3
    rw [Z2.out.2, ← HL.out] at h1
    rw [← HL.out] at h2
    have := lastOf_sorted (hz3.trans HL.out.symm) h1 h2
    rwa [hz3] at this⟩
  clear hS3 hst3 hso3 R3 R2' B2 hz3 Z2
  go_wp2_with (go_at_call 96; refine hc4.mono ?_; clear hc4; rintro e w4 ⟨d4, hz4, hlen4, hseg4, rfl, hS4⟩)
  go_ret
  refine ⟨some ⟨q, 0, none⟩, _, cap, kept keq d3 (m + 1), rfl, ⟨rfl, by omega, fun _ => ⟨q, 0, rfl, hS4.lt X3.out.1.hblk, ?_⟩, .inr ⟨q, 0, rfl⟩⟩, X3.out.2.2, hlen4, B3.out.trans (SWK.below hS4 Q.out.1 B3.out.size)⟩
  exact holdsK_take (hS4.holds X3.out.1.hblk X3.out.1.hH (hz4.trans X3.out.2.1.symm)) rfl (by rw [hz4]; exact hlen4) hseg4
/-- lastOfEach, of whatever slice of changes. -/
theorem lastOfEach_any (A : Option Addr) (n c : Nat) (l : List Cg) (w : World) (h : HC w A n c l) (hb : n * 40 ≤ 140737488355328) :
    Calls Try.prog 76 #[.slice A n c] w fun e w' => ∃ A' n' c' L, e = .returned (.slice A' n' c') ∧ HC w' A' n' c' L ∧ LastOf l L ∧ n' ≤ n ∧ Below w.heap.size w w' := by
  rcases Nat.eq_zero_or_pos n with h0 | h0
  · subst h0
    obtain rfl : l = [] := List.length_eq_zero_iff.1 h.1
    refine (lastOfEach_none A c w h.2.2.2).mono ?_
    rintro e w' ⟨A', c', rfl, hA, hbl⟩
    exact ⟨A', 0, c', [], rfl, HC.nil w' c' hA, lastOf_nil, Nat.le_refl _, hbl⟩
  · obtain ⟨b, o, rfl, _, hH⟩ := h.2.2.1 h0
    exact lastOfEach_some b o n c l w h.1 h0 hb hH
end Go.Proofs.Ytbfhlleipeipbaa
