/-
  What is proved: what the functions that lay numbers, texts and truths behind bytes answer, and that they turn nothing that was there.
-/
import Derived.Test.YtbfhlleipeipbaaOwn
import Derived.LoopN
namespace Go.Proofs.Ytbfhlleipeipbaa
open Go.RowKit

set_option maxHeartbeats 400000 in
theorem numberBytes_any (n : Int) (w : World) :
    Calls Try.prog 82 #[.int .i64 n] w fun e w' => e = .returned (.agg (bv (dig n)).toArray) ∧ Below w.heap.size w w' := by
  have he : (bv (dig n)).toArray = #[Value.int .u8 (IntKind.u64.wrap n / 256 / 256 / 256 / 256 / 256 / 256 / 256 % 256), .int .u8 (IntKind.u64.wrap n / 256 / 256 / 256 / 256 / 256 / 256 % 256), .int .u8 (IntKind.u64.wrap n / 256 / 256 / 256 / 256 / 256 % 256), .int .u8 (IntKind.u64.wrap n / 256 / 256 / 256 / 256 % 256), .int .u8 (IntKind.u64.wrap n / 256 / 256 / 256 % 256), .int .u8 (IntKind.u64.wrap n / 256 / 256 % 256), .int .u8 (IntKind.u64.wrap n / 256 % 256), .int .u8 (IntKind.u64.wrap n % 256)] := by
    simp [bv, dig, byteOf_cast]
  have HE := Lib.hid he
  clear he
  go_enter Try.func82, Try.ntmps82
  go_wp2
  generalize IntKind.u64.wrap n = u at *
  refine wp_loop_rounds 9 ?_
  iterate 9 (rw [rounds_succ]; go_wp2)
  refine bodyPost_ret (v := .agg (bv (dig n)).toArray) (by rw [HE.out]; simp [results, Try.results82, go_sem]) rfl ⟨rfl, ?_⟩
  exact ((Below.refl _ _).alloc (Nat.le_refl _) _).alloc (by simp) _

set_option maxHeartbeats 400000 in
theorem join_any (g : Nat) (ps : List Part) (w : World) (hcell : ∀ j (h : j < ps.length), w.cell? ⟨g, j, none⟩ = some (ps[j].val)) (hh : ∀ p ∈ ps, Hold w p.1 p.2.1 p.2.2.1 p.2.2.2)
    (hlen : ps.length ≤ 65536) (htot : tot ps ≤ 281474976710656) :
    Calls Try.prog 83 #[.slice (some ⟨g, 0, none⟩) ps.length ps.length] w fun e w' => e = .returned (.slice (some ⟨w.heap.size, 0, none⟩) (tot ps) (tot ps)) ∧ w'.ownsRow w.heap.size 5 1 (.slice (some ⟨w.heap.size, 0, none⟩) (tot ps) (tot ps)) (tot ps) (bv (cat ps)) ∧ Below w.heap.size w w' := by
  obtain ⟨i0, hi, hz0, hz1, hz2⟩ := info_parts Try.info5
  have HC := Lib.hid hcell
  clear hcell
  go_enter Try.func83, Try.ntmps83
  go_wp2
  go_loop [3, 11] (fun s i => ∃ k : Nat, k ≤ ps.length ∧ i = .int .i64 k ∧ s = .int .i64 (tot (ps.take k))) (fun _ i => ps.length - (intOf i).toNat)
  case atStart => exact ⟨0, Nat.zero_le _, rfl, rfl⟩
  case round =>
    obtain ⟨k, hk, rfl, rfl⟩ := hrel
    by_cases hlt : k < ps.length
    · have hc := HC.out k hlt
      have hs := Lib.hid (tot_snoc ps k hlt)
      have hle := tot_le' ps k hlt
      have hle2 := tot_le ps k
      generalize ps[k] = p at *
      obtain ⟨A, n, c, l⟩ := p
      simp only [Part.val] at hc hle
      go_wp2
      go_round
      case rel => exact ⟨k + 1, by omega, by go_num, by rw [hs.out]; go_num⟩
      case measure => simp [intOf]; omega
    · obtain rfl : k = ps.length := by omega
      have htk : ps.take ps.length = ps := List.take_length
      rw [htk]
      clear hk hlt htk
      go_wp2_with (at_make; refine wpList_make_own _ rfl _ _ 43 rfl w.heap.size 5 i0 (.int .u8 0) 1 Try.underlying43 hi hz0 hz1 _ _ _ (tot ps) rfl rfl rfl (by rw [hz2]; omega) (by unfold maxLen; omega) (Nat.le_refl _) ?_; intro w1 hown1 hgrow1)
      have hb1 : Below w.heap.size w w1 := (Below.refl _ _).grown hgrow1 (Nat.le_refl _) (by simp)
      go_loopw [6, 24] (fun v i wr => ∃ k : Nat, k ≤ ps.length ∧ i = .int .i64 k ∧ v = .slice (some ⟨w.heap.size, 0, none⟩) (tot (ps.take k)) (tot ps) ∧ wr.ownsRow w.heap.size 5 1 (.slice (some ⟨w.heap.size, 0, none⟩) (tot (ps.take k)) (tot ps)) (tot (ps.take k)) (bv (cat (ps.take k))) ∧ Below w.heap.size w wr)
        (fun _ i _ => ps.length - (intOf i).toNat)
      case atStart => exact ⟨0, Nat.zero_le _, rfl, rfl, hown1, hb1⟩
      case round =>
        obtain ⟨k, hk, rfl, rfl, hown, hb⟩ := hrel
        clear hown1 hgrow1
        by_cases hlt : k < ps.length
        · have hc := cell_later hb (HC.out k hlt)
          have hs := Lib.hid (tot_snoc ps k hlt)
          have hcs := Lib.hid (cat_snoc ps k hlt)
          have hle := tot_le' ps k hlt
          have hle2 := tot_le ps k
          have hhk := (hh _ (List.getElem_mem hlt)).below hb
          generalize ps[k] = p at *
          obtain ⟨A, n, c, l⟩ := p
          simp only [Part.val] at hc hle hhk
          have HH := Lib.hid hhk
          clear hhk
          have hlen' : (bv l).length = n * 1 := by rw [bv_length, HH.out.len]; omega
          have HL := Lib.hid hlen'
          clear hlen'
          go_wp2_with (at_builtin; refine wpList_append_fits_any _ rfl _ _ 43 rfl w.heap.size 5 i0 1 Try.underlying43 hi hz1 w.heap.size (tot (ps.take k)) (tot ps) (bv (cat (ps.take k))) rfl hown A n c (bv l) rfl HL.out HH.out.none_ HH.out.cells (bv_one l) hle ?_; intro w2 hown2 hgrow2)
          have hb2 : Below w.heap.size w w2 := hb.grown hgrow2 hb.size (by rintro _ h; cases h; exact Nat.le_refl _)
          go_roundw
          case rel => exact ⟨k + 1, by omega, by go_num, by rw [hs.out], by rw [hs.out, hcs.out, bv_append]; exact hown2, hb2⟩
          case measure => simp [intOf]; omega
        · obtain rfl : k = ps.length := by omega
          have htk : ps.take ps.length = ps := List.take_length
          rw [htk] at hown ⊢
          go_wp2
          go_ret
          exact ⟨rfl, hown, hb⟩

set_option maxHeartbeats 400000 in
theorem digits_any (n : Int) (w : World) :
    Calls Try.prog 37 #[.int .i64 n] w fun e w' => ∃ v, e = .returned v ∧ w'.ownsRow w.heap.size 5 1 v 8 (bv (dig n)) ∧ Below w.heap.size w w' := by
  obtain ⟨i0, hi, hz0, hz1, hz2⟩ := info_parts Try.info5
  go_enter Try.func37, Try.ntmps37
  go_wp2
  go_loopw [3, 4] (fun v i wr => ∃ k : Nat, k ≤ 8 ∧ i = .int .i64 k ∧ wr.ownsRow w.heap.size 5 1 v k (bv ((dig n).take k)) ∧ Below w.heap.size w wr)
    (fun _ i _ => 8 - (intOf i).toNat)
  case atStart => exact ⟨0, Nat.zero_le _, rfl, World.ownsRow_nil _ _ _ _, Below.refl _ _⟩
  case round =>
    obtain ⟨k, hk, rfl, hown, hb⟩ := hrel
    by_cases hlt : k < 8
    · rcases (show k = 0 ∨ k = 1 ∨ k = 2 ∨ k = 3 ∨ k = 4 ∨ k = 5 ∨ k = 6 ∨ k = 7 by omega) with rfl | rfl | rfl | rfl | rfl | rfl | rfl | rfl
      all_goals
        have hsz := hb.size
        go_wp2_with (at_builtin; refine wpList_append_own _ rfl _ _ 43 rfl w.heap.size 5 i0 (.int .u8 0) 1 1 Try.underlying43 hi hz0 hz1 hz2 rfl (by decide) _ _ _ rfl (hown.alloc _) ⟨wr.heap.size, 0, none⟩ 1 1 _ rfl rfl (cell_one_new _ _ _) (by intro u hu; simp at hu; subst hu; rfl) (by decide) (by decide) (by simp; omega) ?_; intro v' w1 hown' hgrow _)
        have hb1 : Below w.heap.size w w1 := (hb.alloc hsz _).grown hgrow (by simp; omega) (fun k h => (hown.lt k h).1)
        go_roundw
        case rel => exact ⟨_, by decide, rfl, by
          refine cast (congrArg _ ?_) hown'
          simp [dig, bv, byteOf_cast]
          try omega, hb1⟩
        case measure => simp [intOf]
    · obtain rfl : k = 8 := by omega
      go_wp2
      go_ret
      exact ⟨_, rfl, hown, hb⟩

/-- What is answered: a new row that holds just these bytes; nothing that was there has turned. -/
def NewRow (w : World) (l : List UInt8) (e : Ending) (w' : World) : Prop :=
  ∃ A n c, e = .returned (.slice A n c) ∧ w'.ownsRow w.heap.size 5 1 (.slice A n c) n (bv l) ∧ Below w.heap.size w w'

theorem join_new (g : Nat) (ps : List Part) (w w0 : World) (m : Nat) (hm : ps.length = m) (hcell : ∀ j (h : j < ps.length), w.cell? ⟨g, j, none⟩ = some (ps[j].val)) (hh : ∀ p ∈ ps, Hold w p.1 p.2.1 p.2.2.1 p.2.2.2)
    (hlen : m ≤ 65536) (htot : tot ps ≤ 281474976710656) (l : List UInt8) (hl : cat ps = l) (hb : Below w0.heap.size w0 w) :
    Calls Try.prog 83 #[.slice (some ⟨g, 0, none⟩) m m] w (NewRow w0 l) := by
  subst hm
  subst hl
  refine (join_any g ps w hcell hh hlen htot).mono ?_
  rintro e w' ⟨rfl, hown, hb'⟩
  refine ⟨_, _, _, rfl, ⟨hown.1, ?_⟩, hb.trans (hb'.mono hb.size)⟩
  rcases hown.2 with ⟨h1, _⟩ | ⟨g', cap, cur, h1, h2, h3⟩
  · cases h1
  · exact .inr ⟨g', cap, cur, h1, Nat.le_trans hb.size h2, h3⟩

theorem join_two (A : Option Addr) (n c : Nat) (l m : List UInt8) (t : TypeId) (w w1 : World) (h : Hold w A n c l) (hb1 : Below w.heap.size w w1) (hn : n + m.length ≤ 281474976710656) :
    Calls Try.prog 83 #[.slice (some ⟨w1.heap.size + 1, 0, none⟩) 2 2] ((w1.alloc (.cells (bv m).toArray t)).alloc (.cells #[.slice A n c, .slice (some ⟨w1.heap.size, 0, none⟩) m.length m.length] 43)) (NewRow w (l ++ m)) := by
  have hW : Below w1.heap.size w1 ((w1.alloc (.cells (bv m).toArray t)).alloc (.cells #[.slice A n c, .slice (some ⟨w1.heap.size, 0, none⟩) m.length m.length] 43)) :=
    ((Below.refl _ _).alloc (Nat.le_refl _) _).alloc (by simp) _
  have hA : Hold ((w1.alloc (.cells (bv m).toArray t)).alloc (.cells #[.slice A n c, .slice (some ⟨w1.heap.size, 0, none⟩) m.length m.length] 43)) A n c l := (h.below hb1).below hW
  have hM : Hold ((w1.alloc (.cells (bv m).toArray t)).alloc (.cells #[.slice A n c, .slice (some ⟨w1.heap.size, 0, none⟩) m.length m.length] 43)) (some ⟨w1.heap.size, 0, none⟩) m.length m.length m :=
    (Hold.new w1 m t (0, 0) _ rfl).below ((Below.refl _ _).alloc (Nat.le_refl _) _)
  refine join_new _ [(A, n, c, l), (some ⟨w1.heap.size, 0, none⟩, m.length, m.length, m)] _ w 2 rfl ?_ ?_ (by omega) (by simp [tot]; omega) _ (by simp [cat]) (hb1.trans (hW.mono hb1.size))
  · intro j hj
    have hcc := cell_of_row ((w1.alloc (.cells (bv m).toArray t)).alloc (.cells #[.slice A n c, .slice (some ⟨w1.heap.size, 0, none⟩) m.length m.length] 43)) (w1.heap.size + 1) j #[.slice A n c, .slice (some ⟨w1.heap.size, 0, none⟩) m.length m.length] 43 (0, 0) (by
      have := heap_alloc_new (w1.alloc (.cells (bv m).toArray t)) (.cells #[.slice A n c, .slice (some ⟨w1.heap.size, 0, none⟩) m.length m.length] 43)
      simpa using this)
    rw [hcc]
    match j, hj with
    | 0, _ => rfl
    | 1, _ => rfl
  · intro p hp
    simp at hp
    rcases hp with rfl | rfl
    · exact hA
    · exact hM

set_option maxHeartbeats 400000 in
theorem putInt_any (A : Option Addr) (n c : Nat) (l : List UInt8) (x : Int) (w : World) (h : Hold w A n c l) (hn : n ≤ 281474976710000) :
    Calls Try.prog 56 #[.slice A n c, .int .i64 x] w (NewRow w (l ++ dig x)) := by
  obtain ⟨b0, b1, b2, b3, b4, b5, b6, b7, hd⟩ : ∃ b0 b1 b2 b3 b4 b5 b6 b7, dig x = [b0, b1, b2, b3, b4, b5, b6, b7] := ⟨_, _, _, _, _, _, _, _, rfl⟩
  have hnb := numberBytes_any x w
  have hj := fun (w1 : World) (hb1 : Below w.heap.size w w1) => join_two A n c l (dig x) 138 w w1 h hb1 (by rw [dig_length]; omega)
  rw [hd] at hnb hj ⊢
  simp only [bv, List.map, List.length] at hnb hj
  have HN := Lib.hid hnb
  have HJ := Lib.hid hj
  clear hnb h hd hj
  go_enter Try.func56, Try.ntmps56
  go_wp2_with (first
    | (go_at_call 82; refine HN.out.mono ?_; rintro e w1 ⟨rfl, hb1⟩)
    | (go_at_call 83; refine (HJ.out w1 hb1).mono ?_; rintro e w2 ⟨g, n2, c2, rfl, hown, hb2⟩))
  go_ret
  exact ⟨g, n2, c2, rfl, hown, hb2⟩

end Go.Proofs.Ytbfhlleipeipbaa
