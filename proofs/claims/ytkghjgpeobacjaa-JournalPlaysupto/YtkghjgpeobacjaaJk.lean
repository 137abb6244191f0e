/-
  What is proved: the law text asks of the program some fixed answers ahead of all else: they are as it asks. No condition.
-/
import Derived.Test.YtkghjgpeobacjaaJl
import Derived.Laws.Pointers
namespace Go.Proofs.Ytkghjgpeobacjaa
open Go.RowKit

/-- a journal that is begun -/
theorem area_zero (s : D) (k : Nat) : s.area k 0 = [] := by simp [D.area]
theorem open_zero {w0 w : World} {g : Nat} {s : D} (h : Mine w0 w g s) (fr to : Nat) (h1 : fr ≤ to) (h2 : to ≤ s.last.length) (hl : s.left ≠ 0) (hbuf : s.buf.length ≤ 4611686018427387904) :
    Calls Try.prog 10 #[.pointer (some ⟨g, 0, none⟩), .int .i64 (fr : Int), .int .i64 (to : Int), .int .i64 0, .int .i64 0] w fun e w' => ∃ j B C, e = .returned (.tuple #[.pointer (some ⟨j, 0, none⟩), .slice B 0 C, .int .i64 0]) ∧ JM w0 w' j g ⟨s, fr, to, 0, 0⟩ ∧ Below w.heap.size w w' := by
  have hm := h.ok.most
  refine (open_mine h (fr : Int) (to : Int) 0 0 (by omega) (by omega) hbuf).mono fun e w' hp => ?_
  have e0 : s.openErr (fr : Int) (to : Int) 0 0 = 0 := by
    unfold D.openErr
    have : ¬ s.badArea (fr : Int) (to : Int) := by unfold D.badArea; omega
    rw [if_neg this, if_neg (by omega), if_neg hl, if_pos]
    rw [Int.toNat_zero, area_zero, splitOf_nil]
    exact ⟨rfl, rfl⟩
  have e1 : s.openFs (fr : Int) 0 = [] := by
    unfold D.openFs
    rw [Int.toNat_zero, area_zero, splitOf_nil]
    rfl
  obtain ⟨j, B, C, rfl, hj, hJ, hF, hb⟩ := hp.1 e0
  rw [e1]
  exact ⟨j, B, C, rfl, ⟨h.below hb, hJ, by have := h.b.size; omega⟩, hb⟩

def aw19 : List UInt8 := [0, 0, 0, 0, 0, 0, 0, 3, 0, 0, 0, 0, 53, 36, 65, 194, 97, 98, 99]
def awx0 : JS := ⟨newSt 2, 0, 2, 0, 0⟩
def awx1 : JS := awx0.app [97, 98, 99]
def awx2 : JS := awx1.app (List.replicate 93 0)
theorem newN_two : newN 2 = 2 := rfl
theorem aw_ok0 : awx0.Ok := ⟨by decide, by decide, by decide, by decide⟩
theorem aw_ok1 : awx1.Ok := aw_ok0.app _
theorem aw_up0 : awx0.d.left < 0 := by decide
theorem aw_e1 : awx0.err [97, 98, 99] = 0 := by rw [JS.err_up aw_up0]; decide
theorem aw_x1 : awx1 = ⟨(awx0.wr [97, 98, 99]).fSt, 0, 2, 19, 1⟩ := JS.app_up aw_up0 _ (by decide) (by decide)
theorem aw_l1 : awx1.d.left = -1 := by decide +kernel
theorem aw_b1 : awx1.d.buf.length = 0 := by decide +kernel
theorem aw_r1 : awx1.d.refuse 0 = 0 := by decide +kernel
theorem aw_t1 : (awx1.d.told 0).take 19 = aw19 := by decide +kernel
theorem aw_tl : (awx1.d.told 0).length = 64 := by decide +kernel
theorem aw_e2 : awx1.err (List.replicate 94 0) = 51 := by rw [JS.err_up (by rw [aw_l1]; decide), aw_x1]; decide
theorem aw_a2 : awx1.app (List.replicate 94 0) = awx1 := by unfold JS.app; rw [if_neg (by decide), if_pos (by rw [aw_x1]; decide)]
theorem aw_e3 : awx1.err (List.replicate 93 0) = 0 := by rw [JS.err_up (by rw [aw_l1]; decide), aw_x1]; decide
theorem aw_n2 : awx2.en = 128 := by
  unfold awx2
  rw [JS.app_up (by rw [aw_l1]; decide) _ (by decide) (by rw [aw_x1]; decide), aw_x1]
  decide
def awS (v : Value) (w : World) : Prop := ∃ A c, v = .slice A 19 c ∧ Hold w A 19 c aw19
def awF (kb : Nat) : Nat → Value → World → Prop
  | 0, v, _ => v = .slice (some ⟨kb, 0, none⟩) 64 64
  | 1, v, _ => v = .slice (some ⟨kb, 0, none⟩) 19 64
  | 2, v, _ | 4, v, _ => v = .string ⟨aw19.toArray⟩
  | 3, v, w => awS v w
  | _, v, _ => v = .bool true
theorem awF_mono {kb : Nat} : ∀ (i : Nat) (v : Value) (w w' : World), awF kb i v w → Below w.heap.size w w' → awF kb i v w'
  | 0, _, _, _, h, _ => h
  | 1, _, _, _, h, _ => h
  | 2, _, _, _, h, _ => h
  | 3, _, _, _, ⟨A, c, e, h⟩, hb => ⟨A, c, e, h.below hb⟩
  | 4, _, _, _, h, _ => h
  | (_ + 5), _, _, _, h, _ => h
theorem made_zero (n : Nat) : (madeCells (Value.int .u8 0).cells (n * 1)).toList = bv (List.replicate n 0) := by
  rw [bv_rep]
  unfold madeCells
  apply List.ext_getElem?
  intro i
  simp only [Array.toList_map, Array.toList_range, List.getElem?_map, List.getElem?_replicate, Nat.mul_one]
  by_cases hi : i < n
  · rw [List.getElem?_range hi, if_pos hi, Option.map_some]
    simp [Value.cells, Nat.mod_one]
  · rw [List.getElem?_eq_none (by simpa using hi), if_neg hi]
    rfl
def zeroC (n : Nat) : Array Value := (bv (List.replicate n 0)).toArray
theorem make_zeros (n : Nat) (w : World) (hn : n ≤ 140737488355328) : (Instr.makeSlice 37 (.int .i64 (n : Int)) (.int .i64 (n : Int))).run Try.prog w = .ok (.slice (some ⟨w.heap.size, 0, none⟩) n n) (w.alloc (.cells (zeroC n) 5)) := by
  obtain ⟨i0, hi0, hz0, hz1, hz2⟩ := info_parts Try.info5
  have h := run_make (P := Try.prog) w 37 5 i0 _ Try.underlying37 hi0 hz0 .i64 .i64 (n : Int) (n : Int) (by omega) (Int.le_refl _) (by rw [hz2]; omega) (by omega)
  have e : madeCells (Value.int .u8 0).cells (n * 1) = zeroC n := by
    unfold zeroC
    rw [← made_zero n]
  rw [hz1, Int.toNat_natCast, e] at h
  exact h
theorem Hold.zeros (w : World) (n k : Nat) (hk : k = w.heap.size) : Hold (w.alloc (.cells (zeroC n) 5)) (some ⟨k, 0, none⟩) n n (List.replicate n 0) := by
  have := Hold.new w (List.replicate n 0) 5 (0, 0) k hk
  rw [List.length_replicate] at this
  exact this

set_option maxRecDepth 100000 in
set_option maxHeartbeats 2000000 in
theorem awake_any (w : World) : Calls Try.prog 12 #[] w fun e w' => e = .returned (.bool true) ∧ Below w.heap.size w w' := by
  have kc := fun (w : World) (C : Array Value) (n c : Nat) => Lib.run_convert_bytes_const (P := Try.prog) w 37 5 C n c Try.underlying37 Try.underlying5
  go_enter Try.func12, Try.ntmps12
  go_wp2_with fail
  refine (new_mine w w 2 (Below.refl _ _)).mono ?_
  rintro e w1 ⟨g, rfl, h1, -, -⟩
  rw [newN_two] at h1
  have H1 := Lib.hid h1
  clear h1
  go_wp2_with fail
  refine (open_zero H1.out 0 2 (by decide) (by decide) (by decide) (by decide)).mono ?_
  rintro e w2 ⟨j, B, C, rfl, h2, -⟩
  have H2 : Hid (JM w w2 j g awx0) := h2
  clear h2 H1
  go_wp2_with fail
  refine (append_jm (H2.out.alloc _) aw_ok0 _ 3 3 [97, 98, 99] (Hold.new w2 [97, 98, 99] 5 _ _ rfl) (by omega) (by decide)).mono ?_
  rintro e w3 ⟨rfl, h3, -⟩
  rw [aw_e1]
  have H3 : Hid (JM w w3 j g awx1) := h3
  clear h3 H2
  have en1 : awx1.en = 19 := by rw [aw_x1]
  have cn1 : awx1.cn = 1 := by rw [aw_x1]
  go_wp2_with fail
  refine (jend_jm H3.out).mono ?_
  rintro e w4 ⟨rfl, rfl⟩
  rw [en1]
  go_wp2_with fail
  refine (jcount_jm H3.out).mono ?_
  rintro e w4 ⟨rfl, rfl⟩
  rw [cn1]
  go_wp2_with fail
  refine (read_ok H3.out.1 0 (by rw [aw_b1]; decide) aw_r1).mono ?_
  rintro e w5 ⟨kb, rfl, hkb, hk5, hb5⟩
  have HJ5 := Lib.hid (H3.out.below hb5)
  have HK : Hid (∀ W, Below w5.drew.heap.size w5.drew W → Hold W (some ⟨kb, 0, none⟩) 19 64 aw19) := Lib.hid fun W hb => by
    have h1 : w5.heap[kb]? = some (.cells (bv (awx1.d.told 0)).toArray 86 (0, 0)) := hk5
    have h2 := (Hold.block h1 64 aw_tl.symm).take (k := 19) (by decide)
    rw [aw_t1] at h2
    exact h2.drew.below hb
  clear hk5 hb5 H3
  go_wp2_with fail
  refine wp_region_steps (awF kb) (fun w w' => Below w.heap.size w w') (by kernel_rfl) (by kernel_rfl) (fun w => Below.refl _ _) (fun _ _ _ h k => h.trans (k.mono h.size)) (fun i v w w' h hb => awF_mono i v w w' h hb) ?_ ?_
  · refine ⟨?_, ?_, ?_, ?_, ?_, ?_, ?_, trivial⟩
    · intro a W hR hoff hd
      left
      refine ⟨rfl, ?_⟩
      have e0 : a.tmps.getD 5 undef = .slice (some ⟨kb, 0, none⟩) 64 64 := hoff.slot 5 (no_dst (by kernel_rfl))
      go_simp
      exact ⟨_, rfl, rfl, Below.refl _ _⟩
    · intro a W hR hoff hd
      left
      refine ⟨rfl, ?_⟩
      have e0 : a.tmps.getD 48 undef = .slice (some ⟨kb, 0, none⟩) 64 64 := hd 0 _ rfl rfl
      go_simp
      exact ⟨_, rfl, rfl, Below.refl _ _⟩
    · intro a W hR hoff hd
      left
      refine ⟨rfl, ?_⟩
      have e0 : a.tmps.getD 49 undef = .slice (some ⟨kb, 0, none⟩) 19 64 := hd 1 _ rfl rfl
      have cv := conv_hold (HK.out W hR)
      go_simp
      exact ⟨_, rfl, rfl, Below.refl _ _⟩
    · intro a W hR hoff hd
      left
      refine ⟨rfl, ?_⟩
      go_simp
      exact ⟨_, rfl, ⟨_, 19, rfl, Hold.new W aw19 5 _ _ rfl⟩, (Below.refl _ _).alloc (Nat.le_refl _) _⟩
    · intro a W hR hoff hd
      left
      refine ⟨rfl, ?_⟩
      obtain ⟨A2, c2, e0, hh⟩ : awS (a.tmps.getD 51 undef) W := hd 3 _ rfl rfl
      have cv := conv_hold hh
      clear hh
      go_simp
      exact ⟨_, rfl, rfl, Below.refl _ _⟩
    · intro a W hR hoff hd
      left
      refine ⟨rfl, ?_⟩
      have e0 : a.tmps.getD 50 undef = .string ⟨aw19.toArray⟩ := hd 2 _ rfl rfl
      have e1 : a.tmps.getD 52 undef = .string ⟨aw19.toArray⟩ := hd 4 _ rfl rfl
      go_simp
      exact ⟨_, rfl, rfl, Below.refl _ _⟩
    · intro a W hR hoff hd
      left
      refine ⟨rfl, ?_⟩
      have e0 : a.tmps.getD 53 undef = .bool true := hd 5 _ rfl rfl
      go_simp
      exact ⟨_, rfl, rfl, Below.refl _ _⟩
  · intro a W hR hoff hf
    have e7 : a.tmps.getD 7 undef = .bool true := hf 6 _ rfl
    have H6 := Lib.hid (HJ5.out.drew.below hR)
    obtain ⟨ys, hys, ha⟩ := off_form hoff (mask := [false, false, false, false, false, false, false, true, false, false, false, false, false, false, false, false, false, false, false, false, false, false, false, false, false, false, false, false, false, false, false, false, false, false, false, false, false, false, false, false, false, false, false, false, false, false, false, false, true, true, true, true, true, true, false, false, false, false, false, false, false, false, false, false, false, false, false, false, false, false, false, false]) (by kernel_rfl)
    rw [hys] at e7
    rename_i hK
    subst ha
    refine hK _ _ ?_
    clear hf hoff hys HK HJ5
    simp only [fillFrom, e7, Nat.zero_add, Nat.reduceAdd]
    have mk1 : ∀ W : World, (Instr.makeSlice 37 (.int .i64 94) (.int .i64 94)).run Try.prog W = .ok (.slice (some ⟨W.heap.size, 0, none⟩) 94 94) (W.alloc (.cells (zeroC 94) 5)) := fun W => make_zeros 94 W (by omega)
    have mk2 : ∀ W : World, (Instr.makeSlice 37 (.int .i64 93) (.int .i64 93)).run Try.prog W = .ok (.slice (some ⟨W.heap.size, 0, none⟩) 93 93) (W.alloc (.cells (zeroC 93) 5)) := fun W => make_zeros 93 W (by omega)
    go_wp2_with fail
    refine (append_jm (H6.out.alloc _) aw_ok1 _ 94 94 _ (Hold.zeros W 94 _ rfl) (by omega) (by rw [aw_b1]; decide)).mono ?_
    rintro e w7 ⟨rfl, h7, -⟩
    rw [aw_e2]
    rw [aw_a2] at h7
    have H7 := Lib.hid h7
    clear h7 H6
    go_wp2_with fail
    refine (append_jm (H7.out.alloc _) aw_ok1 _ 93 93 _ (Hold.zeros w7 93 _ rfl) (by omega) (by rw [aw_b1]; decide)).mono ?_
    rintro e w8 ⟨rfl, h8, -⟩
    rw [aw_e3]
    have H8 : Hid (JM w w8 j g awx2) := h8
    clear h8 H7
    go_wp2_with fail
    refine (jend_jm H8.out).mono ?_
    rintro e w9 ⟨rfl, rfl⟩
    rw [aw_n2]
    go_wp2_with fail
    go_ret
    exact ⟨rfl, H8.out.b⟩
end Go.Proofs.Ytkghjgpeobacjaa
