/-
  What is proved: what the functions that lay numbers, texts and truths behind bytes answer, and that they turn nothing that was there.
-/
import Derived.Test.YtoidbpkclaebpaaRows
import Derived.Test.YtoidbpkclaebpaaBase
import Derived.LoopN
namespace Go.Proofs.Ytoidbpkclaebpaa
open Go.RowKit

theorem Try.info5 : (Try.prog.info? 5).map (fun i => (i.zero, i.size, i.bytes)) = some (some (.int .u8 0), 1, 1) := by kernel_rfl

set_option maxHeartbeats 400000 in
theorem numberBytes_any (n : Int) (w : World) :
    Calls Try.prog 30 #[.int .i64 n] w fun e w' => e = .returned (.agg (bv (dig n)).toArray) ∧ Below w.heap.size w w' := by
  have he : (bv (dig n)).toArray = #[Value.int .u8 (IntKind.u64.wrap n / 256 / 256 / 256 / 256 / 256 / 256 / 256 % 256), .int .u8 (IntKind.u64.wrap n / 256 / 256 / 256 / 256 / 256 / 256 % 256), .int .u8 (IntKind.u64.wrap n / 256 / 256 / 256 / 256 / 256 % 256), .int .u8 (IntKind.u64.wrap n / 256 / 256 / 256 / 256 % 256), .int .u8 (IntKind.u64.wrap n / 256 / 256 / 256 % 256), .int .u8 (IntKind.u64.wrap n / 256 / 256 % 256), .int .u8 (IntKind.u64.wrap n / 256 % 256), .int .u8 (IntKind.u64.wrap n % 256)] := by
    simp [bv, dig, byteOf_cast]
  have HE := Lib.hid he
  clear he
  go_enter Try.func30, Try.ntmps30
  go_wp2
  generalize IntKind.u64.wrap n = u at *
  refine wp_loop_rounds 9 ?_
  iterate 9 (rw [rounds_succ]; go_wp2)
  refine bodyPost_ret (v := .agg (bv (dig n)).toArray) (by rw [HE.out]; simp [results, Try.results30, go_sem]) rfl ⟨rfl, ?_⟩
  exact ((Below.refl _ _).alloc (Nat.le_refl _) _).alloc (by simp) _

set_option maxHeartbeats 400000 in
theorem join_any (g : Nat) (ps : List Part) (w : World) (hcell : ∀ j (h : j < ps.length), w.cell? ⟨g, j, none⟩ = some (ps[j].val)) (hh : ∀ p ∈ ps, Hold w p.1 p.2.1 p.2.2.1 p.2.2.2)
    (hlen : ps.length ≤ 65536) (htot : tot ps ≤ 281474976710656) :
    Calls Try.prog 31 #[.slice (some ⟨g, 0, none⟩) ps.length ps.length] w fun e w' => e = .returned (.slice (some ⟨w.heap.size, 0, none⟩) (tot ps) (tot ps)) ∧ w'.ownsRow w.heap.size 5 1 (.slice (some ⟨w.heap.size, 0, none⟩) (tot ps) (tot ps)) (tot ps) (bv (cat ps)) ∧ Below w.heap.size w w' := by
  obtain ⟨i0, hi, hz0, hz1, hz2⟩ := info_parts Try.info5
  have HC := Lib.hid hcell
  clear hcell
  go_enter Try.func31, Try.ntmps31
  go_wp2
  go_loop [3, 11] (fun s i => ∃ k : Nat, k ≤ ps.length ∧ i = .int .i64 k ∧ s = .int .i64 (tot (ps.take k))) (fun _ i => ps.length - (intOf i).toNat)
  case atStart => exact ⟨0, Nat.zero_le _, rfl, rfl⟩
  case round =>
    obtain ⟨k, hk, rfl, rfl⟩ := hrel
    by_cases hlt : k < ps.length
    · have hc := HC.out k hlt
      have hs := Lib.hid (tot_snoc ps k hlt)
      have hle := tot_le' ps k hlt
      have hle2 := tot_le ps k
      generalize ps[k] = p at *
      obtain ⟨A, n, c, l⟩ := p
      simp only [Part.val] at hc hle
      go_wp2
      go_round
      case rel => exact ⟨k + 1, by omega, by go_num, by rw [hs.out]; go_num⟩
      case measure => simp [intOf]; omega
    · obtain rfl : k = ps.length := by omega
      have htk : ps.take ps.length = ps := List.take_length
      rw [htk]
      clear hk hlt htk
      go_wp2_with (at_make; refine wpList_make_own _ rfl _ _ 22 rfl w.heap.size 5 i0 (.int .u8 0) 1 Try.underlying22 hi hz0 hz1 _ _ _ (tot ps) rfl rfl rfl (by rw [hz2]; omega) (by unfold maxLen; omega) (Nat.le_refl _) ?_; intro w1 hown1 hgrow1)
      have hb1 : Below w.heap.size w w1 := (Below.refl _ _).grown hgrow1 (Nat.le_refl _) (by simp)
      go_loopw [6, 24] (fun v i wr => ∃ k : Nat, k ≤ ps.length ∧ i = .int .i64 k ∧ v = .slice (some ⟨w.heap.size, 0, none⟩) (tot (ps.take k)) (tot ps) ∧ wr.ownsRow w.heap.size 5 1 (.slice (some ⟨w.heap.size, 0, none⟩) (tot (ps.take k)) (tot ps)) (tot (ps.take k)) (bv (cat (ps.take k))) ∧ Below w.heap.size w wr)
        (fun _ i _ => ps.length - (intOf i).toNat)
      case atStart => exact ⟨0, Nat.zero_le _, rfl, rfl, hown1, hb1⟩
      case round =>
        obtain ⟨k, hk, rfl, rfl, hown, hb⟩ := hrel
        clear hown1 hgrow1
        by_cases hlt : k < ps.length
        · have hc := cell_later hb (HC.out k hlt)
          have hs := Lib.hid (tot_snoc ps k hlt)
          have hcs := Lib.hid (cat_snoc ps k hlt)
          have hle := tot_le' ps k hlt
          have hle2 := tot_le ps k
          have hhk := (hh _ (List.getElem_mem hlt)).below hb
          generalize ps[k] = p at *
          obtain ⟨A, n, c, l⟩ := p
          simp only [Part.val] at hc hle hhk
          have HH := Lib.hid hhk
          clear hhk
          have hlen' : (bv l).length = n * 1 := by rw [bv_length, HH.out.len]; omega
          have HL := Lib.hid hlen'
          clear hlen'
          go_wp2_with (at_builtin; refine wpList_append_fits_any _ rfl _ _ 22 rfl w.heap.size 5 i0 1 Try.underlying22 hi hz1 w.heap.size (tot (ps.take k)) (tot ps) (bv (cat (ps.take k))) rfl hown A n c (bv l) rfl HL.out HH.out.none_ HH.out.cells (bv_one l) hle ?_; intro w2 hown2 hgrow2)
          have hb2 : Below w.heap.size w w2 := hb.grown hgrow2 hb.size (by rintro _ h; cases h; exact Nat.le_refl _)
          go_roundw
          case rel => exact ⟨k + 1, by omega, by go_num, by rw [hs.out], by rw [hs.out, hcs.out, bv_append]; exact hown2, hb2⟩
          case measure => simp [intOf]; omega
        · obtain rfl : k = ps.length := by omega
          have htk : ps.take ps.length = ps := List.take_length
          rw [htk] at hown ⊢
          go_wp2
          go_ret
          exact ⟨rfl, hown, hb⟩

set_option maxHeartbeats 400000 in
theorem digits_any (n : Int) (w : World) :
    Calls Try.prog 32 #[.int .i64 n] w fun e w' => ∃ v, e = .returned v ∧ w'.ownsRow w.heap.size 5 1 v 8 (bv (dig n)) ∧ Below w.heap.size w w' := by
  obtain ⟨i0, hi, hz0, hz1, hz2⟩ := info_parts Try.info5
  go_enter Try.func32, Try.ntmps32
  go_wp2
  go_loopw [3, 4] (fun v i wr => ∃ k : Nat, k ≤ 8 ∧ i = .int .i64 k ∧ wr.ownsRow w.heap.size 5 1 v k (bv ((dig n).take k)) ∧ Below w.heap.size w wr)
    (fun _ i _ => 8 - (intOf i).toNat)
  case atStart => exact ⟨0, Nat.zero_le _, rfl, World.ownsRow_nil _ _ _ _, Below.refl _ _⟩
  case round =>
    obtain ⟨k, hk, rfl, hown, hb⟩ := hrel
    by_cases hlt : k < 8
    · rcases (show k = 0 ∨ k = 1 ∨ k = 2 ∨ k = 3 ∨ k = 4 ∨ k = 5 ∨ k = 6 ∨ k = 7 by omega) with rfl | rfl | rfl | rfl | rfl | rfl | rfl | rfl
      all_goals
        have hsz := hb.size
        go_wp2_with (at_builtin; refine wpList_append_own _ rfl _ _ 22 rfl w.heap.size 5 i0 (.int .u8 0) 1 1 Try.underlying22 hi hz0 hz1 hz2 rfl (by decide) _ _ _ rfl (hown.alloc _) ⟨wr.heap.size, 0, none⟩ 1 1 _ rfl rfl (cell_one_new _ _ _) (by intro u hu; simp at hu; subst hu; rfl) (by decide) (by decide) (by simp; omega) ?_; intro v' w1 hown' hgrow _)
        have hb1 : Below w.heap.size w w1 := (hb.alloc hsz _).grown hgrow (by simp; omega) (fun k h => (hown.lt k h).1)
        go_roundw
        case rel => exact ⟨_, by decide, rfl, by
          refine cast (congrArg _ ?_) hown'
          simp [dig, bv, byteOf_cast]
          try omega, hb1⟩
        case measure => simp [intOf]
    · obtain rfl : k = 8 := by omega
      go_wp2
      go_ret
      exact ⟨_, rfl, hown, hb⟩

/-- What is answered: a new row that holds just these bytes; nothing that was there has turned. -/
def NewRow (w : World) (l : List UInt8) (e : Ending) (w' : World) : Prop :=
  ∃ A n c, e = .returned (.slice A n c) ∧ w'.ownsRow w.heap.size 5 1 (.slice A n c) n (bv l) ∧ Below w.heap.size w w'

theorem join_new (g : Nat) (ps : List Part) (w w0 : World) (m : Nat) (hm : ps.length = m) (hcell : ∀ j (h : j < ps.length), w.cell? ⟨g, j, none⟩ = some (ps[j].val)) (hh : ∀ p ∈ ps, Hold w p.1 p.2.1 p.2.2.1 p.2.2.2)
    (hlen : m ≤ 65536) (htot : tot ps ≤ 281474976710656) (l : List UInt8) (hl : cat ps = l) (hb : Below w0.heap.size w0 w) :
    Calls Try.prog 31 #[.slice (some ⟨g, 0, none⟩) m m] w (NewRow w0 l) := by
  subst hm
  subst hl
  refine (join_any g ps w hcell hh hlen htot).mono ?_
  rintro e w' ⟨rfl, hown, hb'⟩
  refine ⟨_, _, _, rfl, ⟨hown.1, ?_⟩, hb.trans (hb'.mono hb.size)⟩
  rcases hown.2 with ⟨h1, _⟩ | ⟨g', cap, cur, h1, h2, h3⟩
  · cases h1
  · exact .inr ⟨g', cap, cur, h1, Nat.le_trans hb.size h2, h3⟩

/-- a new row of bytes reads as these bytes -/
theorem Hold.new (w : World) (m : List UInt8) (t : TypeId) (fr : Nat × Nat) (k : Nat) (hk : k = w.heap.size) : Hold (w.alloc (.cells (bv m).toArray t fr)) (some ⟨k, 0, none⟩) m.length m.length m := by
  subst hk
  refine ⟨rfl, Nat.le_refl _, (fun e => by cases e), fun _ => ⟨w.heap.size, 0, rfl, fun j hj => ?_⟩⟩
  rw [cell_of_row _ w.heap.size (0 + j) (bv m).toArray t fr (heap_alloc_new w _)]
  have := (bv_get m j (.int .u8 (m[j].toNat : Int))).2 ⟨hj, rfl⟩
  simpa using this

theorem join_two (A : Option Addr) (n c : Nat) (l m : List UInt8) (t : TypeId) (w w1 : World) (h : Hold w A n c l) (hb1 : Below w.heap.size w w1) (hn : n + m.length ≤ 281474976710656) :
    Calls Try.prog 31 #[.slice (some ⟨w1.heap.size + 1, 0, none⟩) 2 2] ((w1.alloc (.cells (bv m).toArray t)).alloc (.cells #[.slice A n c, .slice (some ⟨w1.heap.size, 0, none⟩) m.length m.length] 22)) (NewRow w (l ++ m)) := by
  have hW : Below w1.heap.size w1 ((w1.alloc (.cells (bv m).toArray t)).alloc (.cells #[.slice A n c, .slice (some ⟨w1.heap.size, 0, none⟩) m.length m.length] 22)) :=
    ((Below.refl _ _).alloc (Nat.le_refl _) _).alloc (by simp) _
  have hA : Hold ((w1.alloc (.cells (bv m).toArray t)).alloc (.cells #[.slice A n c, .slice (some ⟨w1.heap.size, 0, none⟩) m.length m.length] 22)) A n c l := (h.below hb1).below hW
  have hM : Hold ((w1.alloc (.cells (bv m).toArray t)).alloc (.cells #[.slice A n c, .slice (some ⟨w1.heap.size, 0, none⟩) m.length m.length] 22)) (some ⟨w1.heap.size, 0, none⟩) m.length m.length m :=
    (Hold.new w1 m t (0, 0) _ rfl).below ((Below.refl _ _).alloc (Nat.le_refl _) _)
  refine join_new _ [(A, n, c, l), (some ⟨w1.heap.size, 0, none⟩, m.length, m.length, m)] _ w 2 rfl ?_ ?_ (by omega) (by simp [tot]; omega) _ (by simp [cat]) (hb1.trans (hW.mono hb1.size))
  · intro j hj
    have hcc := cell_of_row ((w1.alloc (.cells (bv m).toArray t)).alloc (.cells #[.slice A n c, .slice (some ⟨w1.heap.size, 0, none⟩) m.length m.length] 22)) (w1.heap.size + 1) j #[.slice A n c, .slice (some ⟨w1.heap.size, 0, none⟩) m.length m.length] 22 (0, 0) (by
      have := heap_alloc_new (w1.alloc (.cells (bv m).toArray t)) (.cells #[.slice A n c, .slice (some ⟨w1.heap.size, 0, none⟩) m.length m.length] 22)
      simpa using this)
    rw [hcc]
    match j, hj with
    | 0, _ => rfl
    | 1, _ => rfl
  · intro p hp
    simp at hp
    rcases hp with rfl | rfl
    · exact hA
    · exact hM

set_option maxHeartbeats 400000 in
theorem putInt_any (A : Option Addr) (n c : Nat) (l : List UInt8) (x : Int) (w : World) (h : Hold w A n c l) (hn : n ≤ 281474976710000) :
    Calls Try.prog 8 #[.slice A n c, .int .i64 x] w (NewRow w (l ++ dig x)) := by
  obtain ⟨b0, b1, b2, b3, b4, b5, b6, b7, hd⟩ : ∃ b0 b1 b2 b3 b4 b5 b6 b7, dig x = [b0, b1, b2, b3, b4, b5, b6, b7] := ⟨_, _, _, _, _, _, _, _, rfl⟩
  have hnb := numberBytes_any x w
  have hj := fun (w1 : World) (hb1 : Below w.heap.size w w1) => join_two A n c l (dig x) 48 w w1 h hb1 (by rw [dig_length]; omega)
  rw [hd] at hnb hj ⊢
  simp only [bv, List.map, List.length] at hnb hj
  have HN := Lib.hid hnb
  have HJ := Lib.hid hj
  clear hnb h hd hj
  go_enter Try.func8, Try.ntmps8
  go_wp2_with (first
    | (go_at_call 30; refine HN.out.mono ?_; rintro e w1 ⟨rfl, hb1⟩)
    | (go_at_call 31; refine (HJ.out w1 hb1).mono ?_; rintro e w2 ⟨g, n2, c2, rfl, hown, hb2⟩))
  go_ret
  exact ⟨g, n2, c2, rfl, hown, hb2⟩

set_option maxHeartbeats 400000 in
theorem putBool_any (A : Option Addr) (n c : Nat) (l : List UInt8) (x : Bool) (w : World) (h : Hold w A n c l) (hn : n ≤ 281474976710000) :
    Calls Try.prog 10 #[.slice A n c, .bool x] w (NewRow w (l ++ [if x then 1 else 0])) := by
  have hj := join_two A n c l [if x then 1 else 0] 51 w w h (Below.refl _ _) (by simp; omega)
  cases x
  all_goals
    simp only [bv, List.map, List.length, if_true, if_false, Bool.false_eq_true] at hj
    have HJ := Lib.hid hj
    clear h hj
    go_enter Try.func10, Try.ntmps10
    go_wp2_with (go_at_call 31; refine HJ.out.mono ?_; rintro e w2 ⟨g, n2, c2, rfl, hown, hb2⟩)
    go_ret
    exact ⟨g, n2, c2, rfl, hown, hb2⟩


theorem join_three (A A2 A3 : Option Addr) (n c n2 c2 n3 c3 : Nat) (l l2 l3 : List UInt8) (g : Nat) (w W : World) (hg : W.heap[g]? = some (.cells #[.slice A n c, .slice A2 n2 c2, .slice A3 n3 c3] 22 (0, 0)))
    (h : Hold W A n c l) (h2 : Hold W A2 n2 c2 l2) (h3 : Hold W A3 n3 c3 l3) (hb : Below w.heap.size w W) (hn : n + n2 + n3 ≤ 281474976710656) :
    Calls Try.prog 31 #[.slice (some ⟨g, 0, none⟩) 3 3] W (NewRow w (l ++ l2 ++ l3)) := by
  refine join_new _ [(A, n, c, l), (A2, n2, c2, l2), (A3, n3, c3, l3)] _ w 3 rfl ?_ ?_ (by omega) (by simp [tot]; omega) _ (by simp [cat]) hb
  · intro j hj
    rw [cell_of_row W g j _ 22 (0, 0) hg]
    match j, hj with
    | 0, _ => rfl
    | 1, _ => rfl
    | 2, _ => rfl
  · intro p hp
    simp at hp
    rcases hp with rfl | rfl | rfl
    · exact h
    · exact h2
    · exact h3

theorem heap_at (w : World) (o : Obj) (k : Nat) (hk : k = w.heap.size) : (w.alloc o).heap[k]? = some o := by
  subst hk
  exact heap_alloc_new w o

theorem Hold.str (W : World) (s : ByteArray) (cap : Nat) (fr : Nat × Nat) (k : Nat) (hk : k = W.heap.size) (hc : s.size ≤ cap) : Hold (W.alloc (.cells (bytesRow s cap) 5 fr)) (some ⟨k, 0, none⟩) s.size cap s.data.toList := by
  subst hk
  have hl : s.data.toList.length = s.size := by rw [Array.length_toList]; rfl
  refine ⟨hl, hc, (fun e => by cases e), fun _ => ⟨W.heap.size, 0, rfl, fun j hj => ?_⟩⟩
  rw [cell_of_row _ W.heap.size (0 + j) (bytesRow s cap) 5 fr (heap_alloc_new W _)]
  have hj' : j < s.data.size := by simpa using hj
  simp only [bytesRow, Nat.zero_add]
  rw [Array.getElem?_append_left (by simpa using hj')]
  simp [Array.getElem?_eq_getElem hj']

set_option maxHeartbeats 400000 in
theorem putText_any (A : Option Addr) (n c : Nat) (l : List UInt8) (s : ByteArray) (w : World) (h : Hold w A n c l) (hn : n + s.size ≤ 281474976710000) :
    Calls Try.prog 9 #[.slice A n c, .string s] w (NewRow w (l ++ dig s.size ++ s.data.toList)) := by
  obtain ⟨b0, b1, b2, b3, b4, b5, b6, b7, hd⟩ : ∃ b0 b1 b2 b3 b4 b5 b6 b7, dig s.size = [b0, b1, b2, b3, b4, b5, b6, b7] := ⟨_, _, _, _, _, _, _, _, rfl⟩
  have hnb := numberBytes_any s.size w
  rw [hd] at hnb ⊢
  simp only [bv, List.map] at hnb
  have HN := Lib.hid hnb
  have H := Lib.hid h
  clear hnb h hd
  have hconv := fun (W : World) => run_bytes_of_string (P := Try.prog) W 9 22 5 s Try.underlying9 Try.underlying22 Try.underlying5
  go_enter Try.func9, Try.ntmps9
  go_wp2_with (go_at_call 30; refine HN.out.mono ?_; rintro e w1 ⟨rfl, hb1⟩)
  have hge := grownCap_ge (w1.alloc (Obj.cells #[Value.int IntKind.u8 ↑b0.toNat, Value.int IntKind.u8 ↑b1.toNat, Value.int IntKind.u8 ↑b2.toNat, Value.int IntKind.u8 ↑b3.toNat, Value.int IntKind.u8 ↑b4.toNat, Value.int IntKind.u8 ↑b5.toNat, Value.int IntKind.u8 ↑b6.toNat, Value.int IntKind.u8 ↑b7.toNat] 48)) s.size 0 5
  clear hconv
  generalize grownCap _ s.size 0 5 = cap at *
  refine (join_three A (some ⟨w1.heap.size, 0, none⟩) (some ⟨w1.heap.size + 1, 0, none⟩) n c 8 8 s.size cap l [b0, b1, b2, b3, b4, b5, b6, b7] s.data.toList (w1.heap.size + 1 + 1) w _ ?_ ?_ ?_ ?_ ?_ ?_).mono ?_
  · exact heap_at _ _ _ (by simp)
  · exact (H.out.below hb1).below ((((Below.refl _ _).alloc (Nat.le_refl _) _).alloc (by simp) _).alloc (by simp; omega) _).drew
  · exact (Hold.new w1 [b0, b1, b2, b3, b4, b5, b6, b7] 48 (0, 0) _ rfl).below (((Below.refl _ _).alloc (Nat.le_refl _) _).alloc (by simp) _).drew
  · exact (Hold.str _ s cap _ _ (by simp) hge).below ((Below.refl _ _).alloc (Nat.le_refl _) _).drew
  · exact hb1.trans (((((Below.refl _ _).alloc hb1.size _).alloc (by simp; have := hb1.size; omega) _).alloc (by simp; have := hb1.size; omega) _).drew)
  · omega
  · rintro e w2 ⟨g, n2, c2, rfl, hown, hb2⟩
    go_wp2
    go_ret
    exact ⟨g, n2, c2, rfl, hown, hb2⟩

end Go.Proofs.Ytoidbpkclaebpaa
