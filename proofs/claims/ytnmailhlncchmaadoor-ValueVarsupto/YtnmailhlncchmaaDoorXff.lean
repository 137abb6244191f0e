/-
  What is proved: contracts of Fits, the document's and value's. Conditions: those in each statement.
-/
import Derived.Test.YtnmailhlncchmaaDoorXfd
namespace Go.Proofs.YtnmailhlncchmaaDoor
open Go.RowKit Go.Lib

def dFitsF1 (b o b2 o2 n c c2 i : Nat) (nm dn : ByteArray) (_k _kd _m : Int) (_s : ByteArray) : Nat → Value
  | 0 => .slice (some ⟨b, o, none⟩) n c
  | 1 => .int .i64 (i : Int)
  | 2 => .pointer (some ⟨b, o + i * 4, none⟩)
  | 3 => .pointer (some ⟨b, o + i * 4, none⟩)
  | 4 => .string nm
  | 5 => .slice (some ⟨b2, o2, none⟩) n c2
  | 6 => .int .i64 (i : Int)
  | 7 => .pointer (some ⟨b2, o2 + i * 2, none⟩)
  | 8 => .pointer (some ⟨b2, o2 + i * 2, none⟩)
  | 9 => .string dn
  | 10 => .bool true
  | 11 => .bool true
  | 12 => undef
  | 13 => undef
  | 14 => undef
  | 15 => undef
  | 16 => undef
  | 17 => undef
  | 18 => undef
  | 19 => undef
  | 20 => undef
  | 21 => undef
  | 22 => undef
  | 23 => undef
  | 24 => .bool true
  | 25 => .bool true
  | 26 => undef
  | 27 => undef
  | 28 => undef
  | 29 => undef
  | 30 => undef
  | 31 => undef
  | 32 => undef
  | 33 => .bool true
  | _ => undef
def dFitsF2 (b o b2 o2 n c c2 i : Nat) (nm dn : ByteArray) (k kd _m : Int) (_s : ByteArray) : Nat → Value
  | 0 => .slice (some ⟨b, o, none⟩) n c
  | 1 => .int .i64 (i : Int)
  | 2 => .pointer (some ⟨b, o + i * 4, none⟩)
  | 3 => .pointer (some ⟨b, o + i * 4, none⟩)
  | 4 => .string nm
  | 5 => .slice (some ⟨b2, o2, none⟩) n c2
  | 6 => .int .i64 (i : Int)
  | 7 => .pointer (some ⟨b2, o2 + i * 2, none⟩)
  | 8 => .pointer (some ⟨b2, o2 + i * 2, none⟩)
  | 9 => .string dn
  | 10 => .bool false
  | 11 => .bool false
  | 12 => .slice (some ⟨b, o, none⟩) n c
  | 13 => .int .i64 (i : Int)
  | 14 => .pointer (some ⟨b, o + i * 4, none⟩)
  | 15 => .pointer (some ⟨b, o + i * 4 + 1, none⟩)
  | 16 => .pointer (some ⟨b, o + i * 4 + 1, none⟩)
  | 17 => .int .i64 k
  | 18 => .slice (some ⟨b2, o2, none⟩) n c2
  | 19 => .int .i64 (i : Int)
  | 20 => .pointer (some ⟨b2, o2 + i * 2, none⟩)
  | 21 => .pointer (some ⟨b2, o2 + i * 2 + 1, none⟩)
  | 22 => .int .i64 kd
  | 23 => .bool true
  | 24 => .bool true
  | 25 => .bool true
  | 26 => undef
  | 27 => undef
  | 28 => undef
  | 29 => undef
  | 30 => undef
  | 31 => undef
  | 32 => undef
  | 33 => .bool true
  | _ => undef
def dFitsF3 (b o b2 o2 n c c2 i : Nat) (nm dn : ByteArray) (k kd m : Int) (s : ByteArray) : Nat → Value
  | 0 => .slice (some ⟨b, o, none⟩) n c
  | 1 => .int .i64 (i : Int)
  | 2 => .pointer (some ⟨b, o + i * 4, none⟩)
  | 3 => .pointer (some ⟨b, o + i * 4, none⟩)
  | 4 => .string nm
  | 5 => .slice (some ⟨b2, o2, none⟩) n c2
  | 6 => .int .i64 (i : Int)
  | 7 => .pointer (some ⟨b2, o2 + i * 2, none⟩)
  | 8 => .pointer (some ⟨b2, o2 + i * 2, none⟩)
  | 9 => .string dn
  | 10 => .bool false
  | 11 => .bool false
  | 12 => .slice (some ⟨b, o, none⟩) n c
  | 13 => .int .i64 (i : Int)
  | 14 => .pointer (some ⟨b, o + i * 4, none⟩)
  | 15 => .pointer (some ⟨b, o + i * 4 + 1, none⟩)
  | 16 => .pointer (some ⟨b, o + i * 4 + 1, none⟩)
  | 17 => .int .i64 k
  | 18 => .slice (some ⟨b2, o2, none⟩) n c2
  | 19 => .int .i64 (i : Int)
  | 20 => .pointer (some ⟨b2, o2 + i * 2, none⟩)
  | 21 => .pointer (some ⟨b2, o2 + i * 2 + 1, none⟩)
  | 22 => .int .i64 kd
  | 23 => .bool false
  | 24 => .bool false
  | 25 => .bool false
  | 26 => .slice (some ⟨b, o, none⟩) n c
  | 27 => .int .i64 (i : Int)
  | 28 => .pointer (some ⟨b, o + i * 4, none⟩)
  | 29 => .pointer (some ⟨b, o + i * 4 + 1, none⟩)
  | 30 => .agg #[.int .i64 k, .int .i64 m, .string s]
  | 31 => .bool false
  | 32 => .bool true
  | 33 => .bool true
  | _ => undef
def dFitsF4 (b o b2 o2 n c c2 i : Nat) (nm dn : ByteArray) (k kd m : Int) (s : ByteArray) : Nat → Value
  | 0 => .slice (some ⟨b, o, none⟩) n c
  | 1 => .int .i64 (i : Int)
  | 2 => .pointer (some ⟨b, o + i * 4, none⟩)
  | 3 => .pointer (some ⟨b, o + i * 4, none⟩)
  | 4 => .string nm
  | 5 => .slice (some ⟨b2, o2, none⟩) n c2
  | 6 => .int .i64 (i : Int)
  | 7 => .pointer (some ⟨b2, o2 + i * 2, none⟩)
  | 8 => .pointer (some ⟨b2, o2 + i * 2, none⟩)
  | 9 => .string dn
  | 10 => .bool false
  | 11 => .bool false
  | 12 => .slice (some ⟨b, o, none⟩) n c
  | 13 => .int .i64 (i : Int)
  | 14 => .pointer (some ⟨b, o + i * 4, none⟩)
  | 15 => .pointer (some ⟨b, o + i * 4 + 1, none⟩)
  | 16 => .pointer (some ⟨b, o + i * 4 + 1, none⟩)
  | 17 => .int .i64 k
  | 18 => .slice (some ⟨b2, o2, none⟩) n c2
  | 19 => .int .i64 (i : Int)
  | 20 => .pointer (some ⟨b2, o2 + i * 2, none⟩)
  | 21 => .pointer (some ⟨b2, o2 + i * 2 + 1, none⟩)
  | 22 => .int .i64 kd
  | 23 => .bool false
  | 24 => .bool false
  | 25 => .bool false
  | 26 => .slice (some ⟨b, o, none⟩) n c
  | 27 => .int .i64 (i : Int)
  | 28 => .pointer (some ⟨b, o + i * 4, none⟩)
  | 29 => .pointer (some ⟨b, o + i * 4 + 1, none⟩)
  | 30 => .agg #[.int .i64 k, .int .i64 m, .string s]
  | 31 => .bool true
  | 32 => .bool false
  | 33 => .bool false
  | _ => undef
set_option maxHeartbeats 16000000 in
set_option maxRecDepth 100000 in
theorem dFits_any (w : World) (A A2 : Option Addr) (n c n2 c2 : Nat) (l : List Vr) (l2 : List Dc) (h : HR w A n c l) (h2 : HD w A2 n2 c2 l2) (hn : n ≤ 140737488355328) : Calls Tryd.prog 27 #[.slice A n c, .slice A2 n2 c2] w fun e w' => e = .returned (.bool (fitsB l l2)) ∧ Below w.heap.size w w' := by
  have hln := h.1
  have hln2 := h2.1
  by_cases hnn : n = n2
  · subst hnn
    have HH := Lib.hid h
    have HH2 := Lib.hid h2
    clear h h2
    go_enter Tryd.func27, Tryd.ntmps27
    go_wp2
    go_loopg [5] n (fun kx vi wr => ∃ i : Nat, vi = .int .i64 (i : Int) ∧ i ≤ n ∧ n - i ≤ kx ∧ Hid (fitsB l l2 = fitsB (l.drop i) (l2.drop i)) ∧ Hid (Below w.heap.size w wr))
    case atStart => exact ⟨0, rfl, Nat.zero_le _, Nat.le_refl _, Lib.hid rfl, Lib.hid (Below.refl _ _)⟩
    case round =>
    obtain ⟨i, rfl, hi, hkx, HI, HB⟩ := hrel
    by_cases he : i < n
    · have hil : i < l.length := by omega
      have hil2 : i < l2.length := by omega
      obtain ⟨b, o, rfl, hlt, e0, e1, e2, e3⟩ := HH.out.elem i hil
      obtain ⟨b2, o2, rfl, hlt2, g0, g1⟩ := HH2.out.elem i hil2
      have D0 := Lib.hid ((HB.out.cell (p := ⟨b, o + i * 4, none⟩) hlt).trans e0)
      have D1 := Lib.hid ((HB.out.cell (p := ⟨b, o + i * 4 + 1, none⟩) hlt).trans e1)
      have D2 := Lib.hid ((HB.out.cell (p := ⟨b, o + i * 4 + 2, none⟩) hlt).trans e2)
      have D3 := Lib.hid ((HB.out.cell (p := ⟨b, o + i * 4 + 3, none⟩) hlt).trans e3)
      have E0 := Lib.hid ((HB.out.cell (p := ⟨b2, o2 + i * 2, none⟩) hlt2).trans g0)
      have E1 := Lib.hid ((HB.out.cell (p := ⟨b2, o2 + i * 2 + 1, none⟩) hlt2).trans g1)
      have HL1 := Lib.hid (Nat.lt_of_lt_of_le hlt HB.out.size)
      have HL2 := Lib.hid (Nat.lt_of_lt_of_le hlt2 HB.out.size)
      have HAT := Lib.hid (HI.out.trans (fitsB_at hil hil2))
      clear e0 e1 e2 e3 g0 g1 HI
      have hiz : (0 : Int) ≤ (i : Int) := by omega
      have hiz2 : (i : Int) < (n : Int) := by omega
      generalize l[i] = x at *
      generalize l2[i] = y at *
      obtain ⟨nm, k, m, s⟩ := x
      obtain ⟨dn, kd⟩ := y
      simp only at D0 D1 D2 D3 E0 E1
      have HM := Lib.hid (fun W => dMay_any W k m s)
      go_wp2_with fail
      cases hq : (nm.toList == dn.toList) with
      | false =>
        have hq2 : (nm.toList != dn.toList) = true := by rw [bne, hq]; rfl
        have HT : Hid (fitsB l l2 = false) := Lib.hid (by rw [HAT.out]; unfold fitX; simp only [hq, Bool.false_and])
        clear HAT HM
        refine wp_region_steps (fun j v _ => v = dFitsF1 b o b2 o2 n c c2 i nm dn k kd m s j) (belR wr.heap.size) (by kernel_rfl) (by kernel_rfl) (fun _ => Below.refl _ _) (fun _ _ _ h k => belR_trans h k) (fun _ _ _ _ h _ => h) ?_ ?_
        · refine ⟨?_, ?_, ?_, ?_, ?_, ?_, ?_, ?_, ?_, ?_, ?_, ?_, ?_, ?_, ?_, ?_, ?_, ?_, ?_, ?_, ?_, ?_, ?_, ?_, ?_, ?_, ?_, ?_, ?_, ?_, ?_, ?_, ?_, ?_, trivial⟩
          · intro a W hR hoff hd
            left
            refine ⟨rfl, ?_⟩
            have e0 : a.tmps.getD 0 undef = .slice (some ⟨b, o, none⟩) n c := hoff.slot 0 (no_dst (by kernel_rfl))
            go_simp
            exact ⟨_, rfl, rfl, Below.refl _ _⟩
          · intro a W hR hoff hd
            left
            refine ⟨rfl, ?_⟩
            have e0 : a.tmps.getD 5 undef = .int .i64 (i : Int) := hoff.slot 5 (no_dst (by kernel_rfl))
            go_simp
            exact ⟨_, rfl, rfl, Below.refl _ _⟩
          · intro a W hR hoff hd
            left
            refine ⟨rfl, ?_⟩
            have e0 : a.tmps.getD 17 undef = .slice (some ⟨b, o, none⟩) n c := hd 0 _ rfl rfl
            have e1 : a.tmps.getD 18 undef = .int .i64 (i : Int) := hd 1 _ rfl rfl
            go_simp
            exact ⟨_, rfl, rfl, Below.refl _ _⟩
          · intro a W hR hoff hd
            left
            refine ⟨rfl, ?_⟩
            have e0 : a.tmps.getD 19 undef = .pointer (some ⟨b, o + i * 4, none⟩) := hd 2 _ rfl rfl
            go_simp
            exact ⟨_, rfl, rfl, Below.refl _ _⟩
          · intro a W hR hoff hd
            left
            refine ⟨rfl, ?_⟩
            have e0 : a.tmps.getD 20 undef = .pointer (some ⟨b, o + i * 4, none⟩) := hd 3 _ rfl rfl
            have c0 := cell_in (und hR) HL1.out D0.out
            go_simp
            exact ⟨_, rfl, rfl, Below.refl _ _⟩
          · intro a W hR hoff hd
            left
            refine ⟨rfl, ?_⟩
            have e0 : a.tmps.getD 1 undef = .slice (some ⟨b2, o2, none⟩) n c2 := hoff.slot 1 (no_dst (by kernel_rfl))
            go_simp
            exact ⟨_, rfl, rfl, Below.refl _ _⟩
          · intro a W hR hoff hd
            left
            refine ⟨rfl, ?_⟩
            have e0 : a.tmps.getD 5 undef = .int .i64 (i : Int) := hoff.slot 5 (no_dst (by kernel_rfl))
            go_simp
            exact ⟨_, rfl, rfl, Below.refl _ _⟩
          · intro a W hR hoff hd
            left
            refine ⟨rfl, ?_⟩
            have e0 : a.tmps.getD 22 undef = .slice (some ⟨b2, o2, none⟩) n c2 := hd 5 _ rfl rfl
            have e1 : a.tmps.getD 23 undef = .int .i64 (i : Int) := hd 6 _ rfl rfl
            go_simp
            exact ⟨_, rfl, rfl, Below.refl _ _⟩
          · intro a W hR hoff hd
            left
            refine ⟨rfl, ?_⟩
            have e0 : a.tmps.getD 24 undef = .pointer (some ⟨b2, o2 + i * 2, none⟩) := hd 7 _ rfl rfl
            go_simp
            exact ⟨_, rfl, rfl, Below.refl _ _⟩
          · intro a W hR hoff hd
            left
            refine ⟨rfl, ?_⟩
            have e0 : a.tmps.getD 25 undef = .pointer (some ⟨b2, o2 + i * 2, none⟩) := hd 8 _ rfl rfl
            have c0 := cell_in (und hR) HL2.out E0.out
            go_simp
            exact ⟨_, rfl, rfl, Below.refl _ _⟩
          · intro a W hR hoff hd
            left
            refine ⟨rfl, ?_⟩
            have e0 : a.tmps.getD 21 undef = .string nm := hd 4 _ rfl rfl
            have e1 : a.tmps.getD 26 undef = .string dn := hd 9 _ rfl rfl
            go_simp
            first | exact ⟨_, rfl, rfl, Below.refl _ _⟩ | exact ⟨_, rfl, congrArg Value.bool (by assumption), Below.refl _ _⟩
          · intro a W hR hoff hd
            left
            refine ⟨rfl, ?_⟩
            have e0 : a.tmps.getD 27 undef = .bool true := hd 10 _ rfl rfl
            go_simp
            exact ⟨_, rfl, rfl, Below.refl _ _⟩
          · intro a W hR hoff hd
            right
            have eg : a.tmps.getD 28 undef = .bool true := hd 11 _ rfl rfl
            exact ⟨unwanted_of (ops := _) (j := 11) (b := false) rfl rfl rfl (b2 := true) (by decide) eg, rfl⟩
          · intro a W hR hoff hd
            right
            have eg : a.tmps.getD 28 undef = .bool true := hd 11 _ rfl rfl
            exact ⟨unwanted_of (ops := _) (j := 11) (b := false) rfl rfl rfl (b2 := true) (by decide) eg, rfl⟩
          · intro a W hR hoff hd
            right
            have eg : a.tmps.getD 28 undef = .bool true := hd 11 _ rfl rfl
            exact ⟨unwanted_of (ops := _) (j := 11) (b := false) rfl rfl rfl (b2 := true) (by decide) eg, rfl⟩
          · intro a W hR hoff hd
            right
            have eg : a.tmps.getD 28 undef = .bool true := hd 11 _ rfl rfl
            exact ⟨unwanted_of (ops := _) (j := 11) (b := false) rfl rfl rfl (b2 := true) (by decide) eg, rfl⟩
          · intro a W hR hoff hd
            right
            have eg : a.tmps.getD 28 undef = .bool true := hd 11 _ rfl rfl
            exact ⟨unwanted_of (ops := _) (j := 11) (b := false) rfl rfl rfl (b2 := true) (by decide) eg, rfl⟩
          · intro a W hR hoff hd
            right
            have eg : a.tmps.getD 28 undef = .bool true := hd 11 _ rfl rfl
            exact ⟨unwanted_of (ops := _) (j := 11) (b := false) rfl rfl rfl (b2 := true) (by decide) eg, rfl⟩
          · intro a W hR hoff hd
            right
            have eg : a.tmps.getD 28 undef = .bool true := hd 11 _ rfl rfl
            exact ⟨unwanted_of (ops := _) (j := 11) (b := false) rfl rfl rfl (b2 := true) (by decide) eg, rfl⟩
          · intro a W hR hoff hd
            right
            have eg : a.tmps.getD 28 undef = .bool true := hd 11 _ rfl rfl
            exact ⟨unwanted_of (ops := _) (j := 11) (b := false) rfl rfl rfl (b2 := true) (by decide) eg, rfl⟩
          · intro a W hR hoff hd
            right
            have eg : a.tmps.getD 28 undef = .bool true := hd 11 _ rfl rfl
            exact ⟨unwanted_of (ops := _) (j := 11) (b := false) rfl rfl rfl (b2 := true) (by decide) eg, rfl⟩
          · intro a W hR hoff hd
            right
            have eg : a.tmps.getD 28 undef = .bool true := hd 11 _ rfl rfl
            exact ⟨unwanted_of (ops := _) (j := 11) (b := false) rfl rfl rfl (b2 := true) (by decide) eg, rfl⟩
          · intro a W hR hoff hd
            right
            have eg : a.tmps.getD 28 undef = .bool true := hd 11 _ rfl rfl
            exact ⟨unwanted_of (ops := _) (j := 11) (b := false) rfl rfl rfl (b2 := true) (by decide) eg, rfl⟩
          · intro a W hR hoff hd
            right
            have eg : a.tmps.getD 28 undef = .bool true := hd 11 _ rfl rfl
            exact ⟨unwanted_of (ops := _) (j := 11) (b := false) rfl rfl rfl (b2 := true) (by decide) eg, rfl⟩
          · intro a W hR hoff hd
            left
            refine ⟨rfl, ?_⟩
            have e0 : a.tmps.getD 28 undef = .bool true := hd 11 _ rfl rfl
            have e1 : a.tmps.getD 40 undef = undef := hd 23 _ rfl rfl
            go_simp
            exact ⟨_, rfl, rfl, Below.refl _ _⟩
          · intro a W hR hoff hd
            left
            refine ⟨rfl, ?_⟩
            have e0 : a.tmps.getD 41 undef = .bool true := hd 24 _ rfl rfl
            go_simp
            exact ⟨_, rfl, rfl, Below.refl _ _⟩
          · intro a W hR hoff hd
            right
            have eg : a.tmps.getD 42 undef = .bool true := hd 25 _ rfl rfl
            exact ⟨unwanted_of (ops := _) (j := 25) (b := false) rfl rfl rfl (b2 := true) (by decide) eg, rfl⟩
          · intro a W hR hoff hd
            right
            have eg : a.tmps.getD 42 undef = .bool true := hd 25 _ rfl rfl
            exact ⟨unwanted_of (ops := _) (j := 25) (b := false) rfl rfl rfl (b2 := true) (by decide) eg, rfl⟩
          · intro a W hR hoff hd
            right
            have eg : a.tmps.getD 42 undef = .bool true := hd 25 _ rfl rfl
            exact ⟨unwanted_of (ops := _) (j := 25) (b := false) rfl rfl rfl (b2 := true) (by decide) eg, rfl⟩
          · intro a W hR hoff hd
            right
            have eg : a.tmps.getD 42 undef = .bool true := hd 25 _ rfl rfl
            exact ⟨unwanted_of (ops := _) (j := 25) (b := false) rfl rfl rfl (b2 := true) (by decide) eg, rfl⟩
          · intro a W hR hoff hd
            right
            have eg : a.tmps.getD 42 undef = .bool true := hd 25 _ rfl rfl
            exact ⟨unwanted_of (ops := _) (j := 25) (b := false) rfl rfl rfl (b2 := true) (by decide) eg, rfl⟩
          · intro a W hR hoff hd
            right
            have eg : a.tmps.getD 42 undef = .bool true := hd 25 _ rfl rfl
            exact ⟨unwanted_of (ops := _) (j := 25) (b := false) rfl rfl rfl (b2 := true) (by decide) eg, rfl⟩
          · intro a W hR hoff hd
            right
            have eg : a.tmps.getD 42 undef = .bool true := hd 25 _ rfl rfl
            exact ⟨unwanted_of (ops := _) (j := 25) (b := false) rfl rfl rfl (b2 := true) (by decide) eg, rfl⟩
          · intro a W hR hoff hd
            left
            refine ⟨rfl, ?_⟩
            have e0 : a.tmps.getD 42 undef = .bool true := hd 25 _ rfl rfl
            have e1 : a.tmps.getD 49 undef = undef := hd 32 _ rfl rfl
            go_simp
            exact ⟨_, rfl, rfl, Below.refl _ _⟩
        · intro a W hR hoff hd
          have eL : a.tmps.getD 50 undef = .bool true := hd 33 _ rfl
          have HBW := Lib.hid (HB.out.trans ((und hR).mono HB.out.size))
          obtain ⟨ys, hys, ha⟩ := off_form hoff (mask := [false, false, false, false, false, false, false, false, false, false, false, false, false, false, false, false, false, true, true, true, true, true, true, true, true, true, true, true, true, true, true, true, true, true, true, true, true, true, true, true, true, true, true, true, true, true, true, true, true, true, true]) (by kernel_rfl)
          rw [hys] at eL
          subst ha
          clear hd hR
          simp only [fillFrom, Nat.zero_add, Nat.reduceAdd] at *
          rw [eL]
          clear eL hys hoff
          rename_i hK
          refine hK _ _ ?_
          clear hK
          go_wp2_with fail
          go_ret
          exact ⟨by rw [HT.out]; rfl, HBW.out⟩
      | true =>
        have hq2 : (nm.toList != dn.toList) = false := by rw [bne, hq]; rfl
        cases hkk : (k == kd) with
        | false =>
          have hk2 : (k != kd) = true := by rw [bne, hkk]; rfl
          have hk3 : decide (k = kd) = false := by rw [← hkk]; rfl
          have HT : Hid (fitsB l l2 = false) := Lib.hid (by rw [HAT.out]; unfold fitX; simp only [hq, hkk, Bool.true_and, Bool.false_and])
          clear HAT HM
          refine wp_region_steps (fun j v _ => v = dFitsF2 b o b2 o2 n c c2 i nm dn k kd m s j) (belR wr.heap.size) (by kernel_rfl) (by kernel_rfl) (fun _ => Below.refl _ _) (fun _ _ _ h k => belR_trans h k) (fun _ _ _ _ h _ => h) ?_ ?_
          · refine ⟨?_, ?_, ?_, ?_, ?_, ?_, ?_, ?_, ?_, ?_, ?_, ?_, ?_, ?_, ?_, ?_, ?_, ?_, ?_, ?_, ?_, ?_, ?_, ?_, ?_, ?_, ?_, ?_, ?_, ?_, ?_, ?_, ?_, ?_, trivial⟩
            · intro a W hR hoff hd
              left
              refine ⟨rfl, ?_⟩
              have e0 : a.tmps.getD 0 undef = .slice (some ⟨b, o, none⟩) n c := hoff.slot 0 (no_dst (by kernel_rfl))
              go_simp
              exact ⟨_, rfl, rfl, Below.refl _ _⟩
            · intro a W hR hoff hd
              left
              refine ⟨rfl, ?_⟩
              have e0 : a.tmps.getD 5 undef = .int .i64 (i : Int) := hoff.slot 5 (no_dst (by kernel_rfl))
              go_simp
              exact ⟨_, rfl, rfl, Below.refl _ _⟩
            · intro a W hR hoff hd
              left
              refine ⟨rfl, ?_⟩
              have e0 : a.tmps.getD 17 undef = .slice (some ⟨b, o, none⟩) n c := hd 0 _ rfl rfl
              have e1 : a.tmps.getD 18 undef = .int .i64 (i : Int) := hd 1 _ rfl rfl
              go_simp
              exact ⟨_, rfl, rfl, Below.refl _ _⟩
            · intro a W hR hoff hd
              left
              refine ⟨rfl, ?_⟩
              have e0 : a.tmps.getD 19 undef = .pointer (some ⟨b, o + i * 4, none⟩) := hd 2 _ rfl rfl
              go_simp
              exact ⟨_, rfl, rfl, Below.refl _ _⟩
            · intro a W hR hoff hd
              left
              refine ⟨rfl, ?_⟩
              have e0 : a.tmps.getD 20 undef = .pointer (some ⟨b, o + i * 4, none⟩) := hd 3 _ rfl rfl
              have c0 := cell_in (und hR) HL1.out D0.out
              go_simp
              exact ⟨_, rfl, rfl, Below.refl _ _⟩
            · intro a W hR hoff hd
              left
              refine ⟨rfl, ?_⟩
              have e0 : a.tmps.getD 1 undef = .slice (some ⟨b2, o2, none⟩) n c2 := hoff.slot 1 (no_dst (by kernel_rfl))
              go_simp
              exact ⟨_, rfl, rfl, Below.refl _ _⟩
            · intro a W hR hoff hd
              left
              refine ⟨rfl, ?_⟩
              have e0 : a.tmps.getD 5 undef = .int .i64 (i : Int) := hoff.slot 5 (no_dst (by kernel_rfl))
              go_simp
              exact ⟨_, rfl, rfl, Below.refl _ _⟩
            · intro a W hR hoff hd
              left
              refine ⟨rfl, ?_⟩
              have e0 : a.tmps.getD 22 undef = .slice (some ⟨b2, o2, none⟩) n c2 := hd 5 _ rfl rfl
              have e1 : a.tmps.getD 23 undef = .int .i64 (i : Int) := hd 6 _ rfl rfl
              go_simp
              exact ⟨_, rfl, rfl, Below.refl _ _⟩
            · intro a W hR hoff hd
              left
              refine ⟨rfl, ?_⟩
              have e0 : a.tmps.getD 24 undef = .pointer (some ⟨b2, o2 + i * 2, none⟩) := hd 7 _ rfl rfl
              go_simp
              exact ⟨_, rfl, rfl, Below.refl _ _⟩
            · intro a W hR hoff hd
              left
              refine ⟨rfl, ?_⟩
              have e0 : a.tmps.getD 25 undef = .pointer (some ⟨b2, o2 + i * 2, none⟩) := hd 8 _ rfl rfl
              have c0 := cell_in (und hR) HL2.out E0.out
              go_simp
              exact ⟨_, rfl, rfl, Below.refl _ _⟩
            · intro a W hR hoff hd
              left
              refine ⟨rfl, ?_⟩
              have e0 : a.tmps.getD 21 undef = .string nm := hd 4 _ rfl rfl
              have e1 : a.tmps.getD 26 undef = .string dn := hd 9 _ rfl rfl
              go_simp
              first | exact ⟨_, rfl, rfl, Below.refl _ _⟩ | exact ⟨_, rfl, congrArg Value.bool (by assumption), Below.refl _ _⟩
            · intro a W hR hoff hd
              left
              refine ⟨rfl, ?_⟩
              have e0 : a.tmps.getD 27 undef = .bool false := hd 10 _ rfl rfl
              go_simp
              exact ⟨_, rfl, rfl, Below.refl _ _⟩
            · intro a W hR hoff hd
              left
              have eg : a.tmps.getD 28 undef = .bool false := hd 11 _ rfl rfl
              refine ⟨wanted_of (ops := _) (j := 11) (b := false) rfl rfl rfl eg, ?_⟩
              clear eg
              have e0 : a.tmps.getD 0 undef = .slice (some ⟨b, o, none⟩) n c := hoff.slot 0 (no_dst (by kernel_rfl))
              go_simp
              exact ⟨_, rfl, rfl, Below.refl _ _⟩
            · intro a W hR hoff hd
              left
              have eg : a.tmps.getD 28 undef = .bool false := hd 11 _ rfl rfl
              refine ⟨wanted_of (ops := _) (j := 11) (b := false) rfl rfl rfl eg, ?_⟩
              clear eg
              have e0 : a.tmps.getD 5 undef = .int .i64 (i : Int) := hoff.slot 5 (no_dst (by kernel_rfl))
              go_simp
              exact ⟨_, rfl, rfl, Below.refl _ _⟩
            · intro a W hR hoff hd
              left
              have eg : a.tmps.getD 28 undef = .bool false := hd 11 _ rfl rfl
              refine ⟨wanted_of (ops := _) (j := 11) (b := false) rfl rfl rfl eg, ?_⟩
              clear eg
              have e0 : a.tmps.getD 29 undef = .slice (some ⟨b, o, none⟩) n c := hd 12 _ rfl rfl
              have e1 : a.tmps.getD 30 undef = .int .i64 (i : Int) := hd 13 _ rfl rfl
              go_simp
              exact ⟨_, rfl, rfl, Below.refl _ _⟩
            · intro a W hR hoff hd
              left
              have eg : a.tmps.getD 28 undef = .bool false := hd 11 _ rfl rfl
              refine ⟨wanted_of (ops := _) (j := 11) (b := false) rfl rfl rfl eg, ?_⟩
              clear eg
              have e0 : a.tmps.getD 31 undef = .pointer (some ⟨b, o + i * 4, none⟩) := hd 14 _ rfl rfl
              go_simp
              exact ⟨_, rfl, rfl, Below.refl _ _⟩
            · intro a W hR hoff hd
              left
              have eg : a.tmps.getD 28 undef = .bool false := hd 11 _ rfl rfl
              refine ⟨wanted_of (ops := _) (j := 11) (b := false) rfl rfl rfl eg, ?_⟩
              clear eg
              have e0 : a.tmps.getD 32 undef = .pointer (some ⟨b, o + i * 4 + 1, none⟩) := hd 15 _ rfl rfl
              go_simp
              exact ⟨_, rfl, rfl, Below.refl _ _⟩
            · intro a W hR hoff hd
              left
              have eg : a.tmps.getD 28 undef = .bool false := hd 11 _ rfl rfl
              refine ⟨wanted_of (ops := _) (j := 11) (b := false) rfl rfl rfl eg, ?_⟩
              clear eg
              have e0 : a.tmps.getD 33 undef = .pointer (some ⟨b, o + i * 4 + 1, none⟩) := hd 16 _ rfl rfl
              have c0 := cell_in (und hR) HL1.out D1.out
              go_simp
              exact ⟨_, rfl, rfl, Below.refl _ _⟩
            · intro a W hR hoff hd
              left
              have eg : a.tmps.getD 28 undef = .bool false := hd 11 _ rfl rfl
              refine ⟨wanted_of (ops := _) (j := 11) (b := false) rfl rfl rfl eg, ?_⟩
              clear eg
              have e0 : a.tmps.getD 1 undef = .slice (some ⟨b2, o2, none⟩) n c2 := hoff.slot 1 (no_dst (by kernel_rfl))
              go_simp
              exact ⟨_, rfl, rfl, Below.refl _ _⟩
            · intro a W hR hoff hd
              left
              have eg : a.tmps.getD 28 undef = .bool false := hd 11 _ rfl rfl
              refine ⟨wanted_of (ops := _) (j := 11) (b := false) rfl rfl rfl eg, ?_⟩
              clear eg
              have e0 : a.tmps.getD 5 undef = .int .i64 (i : Int) := hoff.slot 5 (no_dst (by kernel_rfl))
              go_simp
              exact ⟨_, rfl, rfl, Below.refl _ _⟩
            · intro a W hR hoff hd
              left
              have eg : a.tmps.getD 28 undef = .bool false := hd 11 _ rfl rfl
              refine ⟨wanted_of (ops := _) (j := 11) (b := false) rfl rfl rfl eg, ?_⟩
              clear eg
              have e0 : a.tmps.getD 35 undef = .slice (some ⟨b2, o2, none⟩) n c2 := hd 18 _ rfl rfl
              have e1 : a.tmps.getD 36 undef = .int .i64 (i : Int) := hd 19 _ rfl rfl
              go_simp
              exact ⟨_, rfl, rfl, Below.refl _ _⟩
            · intro a W hR hoff hd
              left
              have eg : a.tmps.getD 28 undef = .bool false := hd 11 _ rfl rfl
              refine ⟨wanted_of (ops := _) (j := 11) (b := false) rfl rfl rfl eg, ?_⟩
              clear eg
              have e0 : a.tmps.getD 37 undef = .pointer (some ⟨b2, o2 + i * 2, none⟩) := hd 20 _ rfl rfl
              go_simp
              exact ⟨_, rfl, rfl, Below.refl _ _⟩
            · intro a W hR hoff hd
              left
              have eg : a.tmps.getD 28 undef = .bool false := hd 11 _ rfl rfl
              refine ⟨wanted_of (ops := _) (j := 11) (b := false) rfl rfl rfl eg, ?_⟩
              clear eg
              have e0 : a.tmps.getD 38 undef = .pointer (some ⟨b2, o2 + i * 2 + 1, none⟩) := hd 21 _ rfl rfl
              have c0 := cell_in (und hR) HL2.out E1.out
              go_simp
              exact ⟨_, rfl, rfl, Below.refl _ _⟩
            · intro a W hR hoff hd
              left
              have eg : a.tmps.getD 28 undef = .bool false := hd 11 _ rfl rfl
              refine ⟨wanted_of (ops := _) (j := 11) (b := false) rfl rfl rfl eg, ?_⟩
              clear eg
              have e0 : a.tmps.getD 34 undef = .int .i64 k := hd 17 _ rfl rfl
              have e1 : a.tmps.getD 39 undef = .int .i64 kd := hd 22 _ rfl rfl
              go_simp
              first | exact ⟨_, rfl, rfl, Below.refl _ _⟩ | exact ⟨_, rfl, congrArg Value.bool (by assumption), Below.refl _ _⟩
            · intro a W hR hoff hd
              left
              refine ⟨rfl, ?_⟩
              have e0 : a.tmps.getD 28 undef = .bool false := hd 11 _ rfl rfl
              have e1 : a.tmps.getD 40 undef = .bool true := hd 23 _ rfl rfl
              go_simp
              exact ⟨_, rfl, rfl, Below.refl _ _⟩
            · intro a W hR hoff hd
              left
              refine ⟨rfl, ?_⟩
              have e0 : a.tmps.getD 41 undef = .bool true := hd 24 _ rfl rfl
              go_simp
              exact ⟨_, rfl, rfl, Below.refl _ _⟩
            · intro a W hR hoff hd
              right
              have eg : a.tmps.getD 42 undef = .bool true := hd 25 _ rfl rfl
              exact ⟨unwanted_of (ops := _) (j := 25) (b := false) rfl rfl rfl (b2 := true) (by decide) eg, rfl⟩
            · intro a W hR hoff hd
              right
              have eg : a.tmps.getD 42 undef = .bool true := hd 25 _ rfl rfl
              exact ⟨unwanted_of (ops := _) (j := 25) (b := false) rfl rfl rfl (b2 := true) (by decide) eg, rfl⟩
            · intro a W hR hoff hd
              right
              have eg : a.tmps.getD 42 undef = .bool true := hd 25 _ rfl rfl
              exact ⟨unwanted_of (ops := _) (j := 25) (b := false) rfl rfl rfl (b2 := true) (by decide) eg, rfl⟩
            · intro a W hR hoff hd
              right
              have eg : a.tmps.getD 42 undef = .bool true := hd 25 _ rfl rfl
              exact ⟨unwanted_of (ops := _) (j := 25) (b := false) rfl rfl rfl (b2 := true) (by decide) eg, rfl⟩
            · intro a W hR hoff hd
              right
              have eg : a.tmps.getD 42 undef = .bool true := hd 25 _ rfl rfl
              exact ⟨unwanted_of (ops := _) (j := 25) (b := false) rfl rfl rfl (b2 := true) (by decide) eg, rfl⟩
            · intro a W hR hoff hd
              right
              have eg : a.tmps.getD 42 undef = .bool true := hd 25 _ rfl rfl
              exact ⟨unwanted_of (ops := _) (j := 25) (b := false) rfl rfl rfl (b2 := true) (by decide) eg, rfl⟩
            · intro a W hR hoff hd
              right
              have eg : a.tmps.getD 42 undef = .bool true := hd 25 _ rfl rfl
              exact ⟨unwanted_of (ops := _) (j := 25) (b := false) rfl rfl rfl (b2 := true) (by decide) eg, rfl⟩
            · intro a W hR hoff hd
              left
              refine ⟨rfl, ?_⟩
              have e0 : a.tmps.getD 42 undef = .bool true := hd 25 _ rfl rfl
              have e1 : a.tmps.getD 49 undef = undef := hd 32 _ rfl rfl
              go_simp
              exact ⟨_, rfl, rfl, Below.refl _ _⟩
          · intro a W hR hoff hd
            have eL : a.tmps.getD 50 undef = .bool true := hd 33 _ rfl
            have HBW := Lib.hid (HB.out.trans ((und hR).mono HB.out.size))
            obtain ⟨ys, hys, ha⟩ := off_form hoff (mask := [false, false, false, false, false, false, false, false, false, false, false, false, false, false, false, false, false, true, true, true, true, true, true, true, true, true, true, true, true, true, true, true, true, true, true, true, true, true, true, true, true, true, true, true, true, true, true, true, true, true, true]) (by kernel_rfl)
            rw [hys] at eL
            subst ha
            clear hd hR
            simp only [fillFrom, Nat.zero_add, Nat.reduceAdd] at *
            rw [eL]
            clear eL hys hoff
            rename_i hK
            refine hK _ _ ?_
            clear hK
            go_wp2_with fail
            go_ret
            exact ⟨by rw [HT.out]; rfl, HBW.out⟩
        | true =>
          have hk2 : (k != kd) = false := by rw [bne, hkk]; rfl
          have hk3 : decide (k = kd) = true := by rw [← hkk]; rfl
          cases hmb : mayV ⟨k, m, s⟩ with
          | false =>
            rw [hmb] at HM
            have HT : Hid (fitsB l l2 = false) := Lib.hid (by rw [HAT.out]; unfold fitX; simp only [hq, hkk, hmb, Bool.true_and, Bool.false_and])
            clear HAT hmb
            refine wp_region_steps (fun j v _ => v = dFitsF3 b o b2 o2 n c c2 i nm dn k kd m s j) (belR wr.heap.size) (by kernel_rfl) (by kernel_rfl) (fun _ => Below.refl _ _) (fun _ _ _ h k => belR_trans h k) (fun _ _ _ _ h _ => h) ?_ ?_
            · refine ⟨?_, ?_, ?_, ?_, ?_, ?_, ?_, ?_, ?_, ?_, ?_, ?_, ?_, ?_, ?_, ?_, ?_, ?_, ?_, ?_, ?_, ?_, ?_, ?_, ?_, ?_, ?_, ?_, ?_, ?_, ?_, ?_, ?_, ?_, trivial⟩
              · intro a W hR hoff hd
                left
                refine ⟨rfl, ?_⟩
                have e0 : a.tmps.getD 0 undef = .slice (some ⟨b, o, none⟩) n c := hoff.slot 0 (no_dst (by kernel_rfl))
                go_simp
                exact ⟨_, rfl, rfl, Below.refl _ _⟩
              · intro a W hR hoff hd
                left
                refine ⟨rfl, ?_⟩
                have e0 : a.tmps.getD 5 undef = .int .i64 (i : Int) := hoff.slot 5 (no_dst (by kernel_rfl))
                go_simp
                exact ⟨_, rfl, rfl, Below.refl _ _⟩
              · intro a W hR hoff hd
                left
                refine ⟨rfl, ?_⟩
                have e0 : a.tmps.getD 17 undef = .slice (some ⟨b, o, none⟩) n c := hd 0 _ rfl rfl
                have e1 : a.tmps.getD 18 undef = .int .i64 (i : Int) := hd 1 _ rfl rfl
                go_simp
                exact ⟨_, rfl, rfl, Below.refl _ _⟩
              · intro a W hR hoff hd
                left
                refine ⟨rfl, ?_⟩
                have e0 : a.tmps.getD 19 undef = .pointer (some ⟨b, o + i * 4, none⟩) := hd 2 _ rfl rfl
                go_simp
                exact ⟨_, rfl, rfl, Below.refl _ _⟩
              · intro a W hR hoff hd
                left
                refine ⟨rfl, ?_⟩
                have e0 : a.tmps.getD 20 undef = .pointer (some ⟨b, o + i * 4, none⟩) := hd 3 _ rfl rfl
                have c0 := cell_in (und hR) HL1.out D0.out
                go_simp
                exact ⟨_, rfl, rfl, Below.refl _ _⟩
              · intro a W hR hoff hd
                left
                refine ⟨rfl, ?_⟩
                have e0 : a.tmps.getD 1 undef = .slice (some ⟨b2, o2, none⟩) n c2 := hoff.slot 1 (no_dst (by kernel_rfl))
                go_simp
                exact ⟨_, rfl, rfl, Below.refl _ _⟩
              · intro a W hR hoff hd
                left
                refine ⟨rfl, ?_⟩
                have e0 : a.tmps.getD 5 undef = .int .i64 (i : Int) := hoff.slot 5 (no_dst (by kernel_rfl))
                go_simp
                exact ⟨_, rfl, rfl, Below.refl _ _⟩
              · intro a W hR hoff hd
                left
                refine ⟨rfl, ?_⟩
                have e0 : a.tmps.getD 22 undef = .slice (some ⟨b2, o2, none⟩) n c2 := hd 5 _ rfl rfl
                have e1 : a.tmps.getD 23 undef = .int .i64 (i : Int) := hd 6 _ rfl rfl
                go_simp
                exact ⟨_, rfl, rfl, Below.refl _ _⟩
              · intro a W hR hoff hd
                left
                refine ⟨rfl, ?_⟩
                have e0 : a.tmps.getD 24 undef = .pointer (some ⟨b2, o2 + i * 2, none⟩) := hd 7 _ rfl rfl
                go_simp
                exact ⟨_, rfl, rfl, Below.refl _ _⟩
              · intro a W hR hoff hd
                left
                refine ⟨rfl, ?_⟩
                have e0 : a.tmps.getD 25 undef = .pointer (some ⟨b2, o2 + i * 2, none⟩) := hd 8 _ rfl rfl
                have c0 := cell_in (und hR) HL2.out E0.out
                go_simp
                exact ⟨_, rfl, rfl, Below.refl _ _⟩
              · intro a W hR hoff hd
                left
                refine ⟨rfl, ?_⟩
                have e0 : a.tmps.getD 21 undef = .string nm := hd 4 _ rfl rfl
                have e1 : a.tmps.getD 26 undef = .string dn := hd 9 _ rfl rfl
                go_simp
                first | exact ⟨_, rfl, rfl, Below.refl _ _⟩ | exact ⟨_, rfl, congrArg Value.bool (by assumption), Below.refl _ _⟩
              · intro a W hR hoff hd
                left
                refine ⟨rfl, ?_⟩
                have e0 : a.tmps.getD 27 undef = .bool false := hd 10 _ rfl rfl
                go_simp
                exact ⟨_, rfl, rfl, Below.refl _ _⟩
              · intro a W hR hoff hd
                left
                have eg : a.tmps.getD 28 undef = .bool false := hd 11 _ rfl rfl
                refine ⟨wanted_of (ops := _) (j := 11) (b := false) rfl rfl rfl eg, ?_⟩
                clear eg
                have e0 : a.tmps.getD 0 undef = .slice (some ⟨b, o, none⟩) n c := hoff.slot 0 (no_dst (by kernel_rfl))
                go_simp
                exact ⟨_, rfl, rfl, Below.refl _ _⟩
              · intro a W hR hoff hd
                left
                have eg : a.tmps.getD 28 undef = .bool false := hd 11 _ rfl rfl
                refine ⟨wanted_of (ops := _) (j := 11) (b := false) rfl rfl rfl eg, ?_⟩
                clear eg
                have e0 : a.tmps.getD 5 undef = .int .i64 (i : Int) := hoff.slot 5 (no_dst (by kernel_rfl))
                go_simp
                exact ⟨_, rfl, rfl, Below.refl _ _⟩
              · intro a W hR hoff hd
                left
                have eg : a.tmps.getD 28 undef = .bool false := hd 11 _ rfl rfl
                refine ⟨wanted_of (ops := _) (j := 11) (b := false) rfl rfl rfl eg, ?_⟩
                clear eg
                have e0 : a.tmps.getD 29 undef = .slice (some ⟨b, o, none⟩) n c := hd 12 _ rfl rfl
                have e1 : a.tmps.getD 30 undef = .int .i64 (i : Int) := hd 13 _ rfl rfl
                go_simp
                exact ⟨_, rfl, rfl, Below.refl _ _⟩
              · intro a W hR hoff hd
                left
                have eg : a.tmps.getD 28 undef = .bool false := hd 11 _ rfl rfl
                refine ⟨wanted_of (ops := _) (j := 11) (b := false) rfl rfl rfl eg, ?_⟩
                clear eg
                have e0 : a.tmps.getD 31 undef = .pointer (some ⟨b, o + i * 4, none⟩) := hd 14 _ rfl rfl
                go_simp
                exact ⟨_, rfl, rfl, Below.refl _ _⟩
              · intro a W hR hoff hd
                left
                have eg : a.tmps.getD 28 undef = .bool false := hd 11 _ rfl rfl
                refine ⟨wanted_of (ops := _) (j := 11) (b := false) rfl rfl rfl eg, ?_⟩
                clear eg
                have e0 : a.tmps.getD 32 undef = .pointer (some ⟨b, o + i * 4 + 1, none⟩) := hd 15 _ rfl rfl
                go_simp
                exact ⟨_, rfl, rfl, Below.refl _ _⟩
              · intro a W hR hoff hd
                left
                have eg : a.tmps.getD 28 undef = .bool false := hd 11 _ rfl rfl
                refine ⟨wanted_of (ops := _) (j := 11) (b := false) rfl rfl rfl eg, ?_⟩
                clear eg
                have e0 : a.tmps.getD 33 undef = .pointer (some ⟨b, o + i * 4 + 1, none⟩) := hd 16 _ rfl rfl
                have c0 := cell_in (und hR) HL1.out D1.out
                go_simp
                exact ⟨_, rfl, rfl, Below.refl _ _⟩
              · intro a W hR hoff hd
                left
                have eg : a.tmps.getD 28 undef = .bool false := hd 11 _ rfl rfl
                refine ⟨wanted_of (ops := _) (j := 11) (b := false) rfl rfl rfl eg, ?_⟩
                clear eg
                have e0 : a.tmps.getD 1 undef = .slice (some ⟨b2, o2, none⟩) n c2 := hoff.slot 1 (no_dst (by kernel_rfl))
                go_simp
                exact ⟨_, rfl, rfl, Below.refl _ _⟩
              · intro a W hR hoff hd
                left
                have eg : a.tmps.getD 28 undef = .bool false := hd 11 _ rfl rfl
                refine ⟨wanted_of (ops := _) (j := 11) (b := false) rfl rfl rfl eg, ?_⟩
                clear eg
                have e0 : a.tmps.getD 5 undef = .int .i64 (i : Int) := hoff.slot 5 (no_dst (by kernel_rfl))
                go_simp
                exact ⟨_, rfl, rfl, Below.refl _ _⟩
              · intro a W hR hoff hd
                left
                have eg : a.tmps.getD 28 undef = .bool false := hd 11 _ rfl rfl
                refine ⟨wanted_of (ops := _) (j := 11) (b := false) rfl rfl rfl eg, ?_⟩
                clear eg
                have e0 : a.tmps.getD 35 undef = .slice (some ⟨b2, o2, none⟩) n c2 := hd 18 _ rfl rfl
                have e1 : a.tmps.getD 36 undef = .int .i64 (i : Int) := hd 19 _ rfl rfl
                go_simp
                exact ⟨_, rfl, rfl, Below.refl _ _⟩
              · intro a W hR hoff hd
                left
                have eg : a.tmps.getD 28 undef = .bool false := hd 11 _ rfl rfl
                refine ⟨wanted_of (ops := _) (j := 11) (b := false) rfl rfl rfl eg, ?_⟩
                clear eg
                have e0 : a.tmps.getD 37 undef = .pointer (some ⟨b2, o2 + i * 2, none⟩) := hd 20 _ rfl rfl
                go_simp
                exact ⟨_, rfl, rfl, Below.refl _ _⟩
              · intro a W hR hoff hd
                left
                have eg : a.tmps.getD 28 undef = .bool false := hd 11 _ rfl rfl
                refine ⟨wanted_of (ops := _) (j := 11) (b := false) rfl rfl rfl eg, ?_⟩
                clear eg
                have e0 : a.tmps.getD 38 undef = .pointer (some ⟨b2, o2 + i * 2 + 1, none⟩) := hd 21 _ rfl rfl
                have c0 := cell_in (und hR) HL2.out E1.out
                go_simp
                exact ⟨_, rfl, rfl, Below.refl _ _⟩
              · intro a W hR hoff hd
                left
                have eg : a.tmps.getD 28 undef = .bool false := hd 11 _ rfl rfl
                refine ⟨wanted_of (ops := _) (j := 11) (b := false) rfl rfl rfl eg, ?_⟩
                clear eg
                have e0 : a.tmps.getD 34 undef = .int .i64 k := hd 17 _ rfl rfl
                have e1 : a.tmps.getD 39 undef = .int .i64 kd := hd 22 _ rfl rfl
                go_simp
                first | exact ⟨_, rfl, rfl, Below.refl _ _⟩ | exact ⟨_, rfl, congrArg Value.bool (by assumption), Below.refl _ _⟩
              · intro a W hR hoff hd
                left
                refine ⟨rfl, ?_⟩
                have e0 : a.tmps.getD 28 undef = .bool false := hd 11 _ rfl rfl
                have e1 : a.tmps.getD 40 undef = .bool false := hd 23 _ rfl rfl
                go_simp
                exact ⟨_, rfl, rfl, Below.refl _ _⟩
              · intro a W hR hoff hd
                left
                refine ⟨rfl, ?_⟩
                have e0 : a.tmps.getD 41 undef = .bool false := hd 24 _ rfl rfl
                go_simp
                exact ⟨_, rfl, rfl, Below.refl _ _⟩
              · intro a W hR hoff hd
                left
                have eg : a.tmps.getD 42 undef = .bool false := hd 25 _ rfl rfl
                refine ⟨wanted_of (ops := _) (j := 25) (b := false) rfl rfl rfl eg, ?_⟩
                clear eg
                have e0 : a.tmps.getD 0 undef = .slice (some ⟨b, o, none⟩) n c := hoff.slot 0 (no_dst (by kernel_rfl))
                go_simp
                exact ⟨_, rfl, rfl, Below.refl _ _⟩
              · intro a W hR hoff hd
                left
                have eg : a.tmps.getD 42 undef = .bool false := hd 25 _ rfl rfl
                refine ⟨wanted_of (ops := _) (j := 25) (b := false) rfl rfl rfl eg, ?_⟩
                clear eg
                have e0 : a.tmps.getD 5 undef = .int .i64 (i : Int) := hoff.slot 5 (no_dst (by kernel_rfl))
                go_simp
                exact ⟨_, rfl, rfl, Below.refl _ _⟩
              · intro a W hR hoff hd
                left
                have eg : a.tmps.getD 42 undef = .bool false := hd 25 _ rfl rfl
                refine ⟨wanted_of (ops := _) (j := 25) (b := false) rfl rfl rfl eg, ?_⟩
                clear eg
                have e0 : a.tmps.getD 43 undef = .slice (some ⟨b, o, none⟩) n c := hd 26 _ rfl rfl
                have e1 : a.tmps.getD 44 undef = .int .i64 (i : Int) := hd 27 _ rfl rfl
                go_simp
                exact ⟨_, rfl, rfl, Below.refl _ _⟩
              · intro a W hR hoff hd
                left
                have eg : a.tmps.getD 42 undef = .bool false := hd 25 _ rfl rfl
                refine ⟨wanted_of (ops := _) (j := 25) (b := false) rfl rfl rfl eg, ?_⟩
                clear eg
                have e0 : a.tmps.getD 45 undef = .pointer (some ⟨b, o + i * 4, none⟩) := hd 28 _ rfl rfl
                go_simp
                exact ⟨_, rfl, rfl, Below.refl _ _⟩
              · intro a W hR hoff hd
                left
                have eg : a.tmps.getD 42 undef = .bool false := hd 25 _ rfl rfl
                refine ⟨wanted_of (ops := _) (j := 25) (b := false) rfl rfl rfl eg, ?_⟩
                clear eg
                have e0 : a.tmps.getD 46 undef = .pointer (some ⟨b, o + i * 4 + 1, none⟩) := hd 29 _ rfl rfl
                have c0 := cell_in (und hR) HL1.out D1.out
                have c1 := cell_in (und hR) HL1.out D2.out
                have c2 := cell_in (und hR) HL1.out D3.out
                go_simp
                exact ⟨_, rfl, rfl, Below.refl _ _⟩
              · intro a W hR hoff hd
                left
                have eg : a.tmps.getD 42 undef = .bool false := hd 25 _ rfl rfl
                refine ⟨wanted_of (ops := _) (j := 25) (b := false) rfl rfl rfl eg, ?_⟩
                clear eg
                have e0 : a.tmps.getD 47 undef = .agg #[.int .i64 k, .int .i64 m, .string s] := hd 30 _ rfl rfl
                go_simp
                refine (HM.out W).mono ?_
                rintro e W2 ⟨rfl, hb2⟩
                exact ⟨_, rfl, rfl, belR_of hR (Nat.le_refl _) hb2⟩
              · intro a W hR hoff hd
                left
                have eg : a.tmps.getD 42 undef = .bool false := hd 25 _ rfl rfl
                refine ⟨wanted_of (ops := _) (j := 25) (b := false) rfl rfl rfl eg, ?_⟩
                clear eg
                have e0 : a.tmps.getD 48 undef = .bool false := hd 31 _ rfl rfl
                go_simp
                exact ⟨_, rfl, rfl, Below.refl _ _⟩
              · intro a W hR hoff hd
                left
                refine ⟨rfl, ?_⟩
                have e0 : a.tmps.getD 42 undef = .bool false := hd 25 _ rfl rfl
                have e1 : a.tmps.getD 49 undef = .bool true := hd 32 _ rfl rfl
                go_simp
                exact ⟨_, rfl, rfl, Below.refl _ _⟩
            · intro a W hR hoff hd
              have eL : a.tmps.getD 50 undef = .bool true := hd 33 _ rfl
              have HBW := Lib.hid (HB.out.trans ((und hR).mono HB.out.size))
              obtain ⟨ys, hys, ha⟩ := off_form hoff (mask := [false, false, false, false, false, false, false, false, false, false, false, false, false, false, false, false, false, true, true, true, true, true, true, true, true, true, true, true, true, true, true, true, true, true, true, true, true, true, true, true, true, true, true, true, true, true, true, true, true, true, true]) (by kernel_rfl)
              rw [hys] at eL
              subst ha
              clear hd hR
              simp only [fillFrom, Nat.zero_add, Nat.reduceAdd] at *
              rw [eL]
              clear eL hys hoff
              rename_i hK
              refine hK _ _ ?_
              clear hK
              go_wp2_with fail
              go_ret
              exact ⟨by rw [HT.out]; rfl, HBW.out⟩
          | true =>
            rw [hmb] at HM
            have HN : Hid (fitsB l l2 = fitsB (l.drop (i + 1)) (l2.drop (i + 1))) := Lib.hid (by rw [HAT.out]; unfold fitX; simp only [hq, hkk, hmb, Bool.true_and])
            clear HAT hmb
            refine wp_region_steps (fun j v _ => v = dFitsF4 b o b2 o2 n c c2 i nm dn k kd m s j) (belR wr.heap.size) (by kernel_rfl) (by kernel_rfl) (fun _ => Below.refl _ _) (fun _ _ _ h k => belR_trans h k) (fun _ _ _ _ h _ => h) ?_ ?_
            · refine ⟨?_, ?_, ?_, ?_, ?_, ?_, ?_, ?_, ?_, ?_, ?_, ?_, ?_, ?_, ?_, ?_, ?_, ?_, ?_, ?_, ?_, ?_, ?_, ?_, ?_, ?_, ?_, ?_, ?_, ?_, ?_, ?_, ?_, ?_, trivial⟩
              · intro a W hR hoff hd
                left
                refine ⟨rfl, ?_⟩
                have e0 : a.tmps.getD 0 undef = .slice (some ⟨b, o, none⟩) n c := hoff.slot 0 (no_dst (by kernel_rfl))
                go_simp
                exact ⟨_, rfl, rfl, Below.refl _ _⟩
              · intro a W hR hoff hd
                left
                refine ⟨rfl, ?_⟩
                have e0 : a.tmps.getD 5 undef = .int .i64 (i : Int) := hoff.slot 5 (no_dst (by kernel_rfl))
                go_simp
                exact ⟨_, rfl, rfl, Below.refl _ _⟩
              · intro a W hR hoff hd
                left
                refine ⟨rfl, ?_⟩
                have e0 : a.tmps.getD 17 undef = .slice (some ⟨b, o, none⟩) n c := hd 0 _ rfl rfl
                have e1 : a.tmps.getD 18 undef = .int .i64 (i : Int) := hd 1 _ rfl rfl
                go_simp
                exact ⟨_, rfl, rfl, Below.refl _ _⟩
              · intro a W hR hoff hd
                left
                refine ⟨rfl, ?_⟩
                have e0 : a.tmps.getD 19 undef = .pointer (some ⟨b, o + i * 4, none⟩) := hd 2 _ rfl rfl
                go_simp
                exact ⟨_, rfl, rfl, Below.refl _ _⟩
              · intro a W hR hoff hd
                left
                refine ⟨rfl, ?_⟩
                have e0 : a.tmps.getD 20 undef = .pointer (some ⟨b, o + i * 4, none⟩) := hd 3 _ rfl rfl
                have c0 := cell_in (und hR) HL1.out D0.out
                go_simp
                exact ⟨_, rfl, rfl, Below.refl _ _⟩
              · intro a W hR hoff hd
                left
                refine ⟨rfl, ?_⟩
                have e0 : a.tmps.getD 1 undef = .slice (some ⟨b2, o2, none⟩) n c2 := hoff.slot 1 (no_dst (by kernel_rfl))
                go_simp
                exact ⟨_, rfl, rfl, Below.refl _ _⟩
              · intro a W hR hoff hd
                left
                refine ⟨rfl, ?_⟩
                have e0 : a.tmps.getD 5 undef = .int .i64 (i : Int) := hoff.slot 5 (no_dst (by kernel_rfl))
                go_simp
                exact ⟨_, rfl, rfl, Below.refl _ _⟩
              · intro a W hR hoff hd
                left
                refine ⟨rfl, ?_⟩
                have e0 : a.tmps.getD 22 undef = .slice (some ⟨b2, o2, none⟩) n c2 := hd 5 _ rfl rfl
                have e1 : a.tmps.getD 23 undef = .int .i64 (i : Int) := hd 6 _ rfl rfl
                go_simp
                exact ⟨_, rfl, rfl, Below.refl _ _⟩
              · intro a W hR hoff hd
                left
                refine ⟨rfl, ?_⟩
                have e0 : a.tmps.getD 24 undef = .pointer (some ⟨b2, o2 + i * 2, none⟩) := hd 7 _ rfl rfl
                go_simp
                exact ⟨_, rfl, rfl, Below.refl _ _⟩
              · intro a W hR hoff hd
                left
                refine ⟨rfl, ?_⟩
                have e0 : a.tmps.getD 25 undef = .pointer (some ⟨b2, o2 + i * 2, none⟩) := hd 8 _ rfl rfl
                have c0 := cell_in (und hR) HL2.out E0.out
                go_simp
                exact ⟨_, rfl, rfl, Below.refl _ _⟩
              · intro a W hR hoff hd
                left
                refine ⟨rfl, ?_⟩
                have e0 : a.tmps.getD 21 undef = .string nm := hd 4 _ rfl rfl
                have e1 : a.tmps.getD 26 undef = .string dn := hd 9 _ rfl rfl
                go_simp
                first | exact ⟨_, rfl, rfl, Below.refl _ _⟩ | exact ⟨_, rfl, congrArg Value.bool (by assumption), Below.refl _ _⟩
              · intro a W hR hoff hd
                left
                refine ⟨rfl, ?_⟩
                have e0 : a.tmps.getD 27 undef = .bool false := hd 10 _ rfl rfl
                go_simp
                exact ⟨_, rfl, rfl, Below.refl _ _⟩
              · intro a W hR hoff hd
                left
                have eg : a.tmps.getD 28 undef = .bool false := hd 11 _ rfl rfl
                refine ⟨wanted_of (ops := _) (j := 11) (b := false) rfl rfl rfl eg, ?_⟩
                clear eg
                have e0 : a.tmps.getD 0 undef = .slice (some ⟨b, o, none⟩) n c := hoff.slot 0 (no_dst (by kernel_rfl))
                go_simp
                exact ⟨_, rfl, rfl, Below.refl _ _⟩
              · intro a W hR hoff hd
                left
                have eg : a.tmps.getD 28 undef = .bool false := hd 11 _ rfl rfl
                refine ⟨wanted_of (ops := _) (j := 11) (b := false) rfl rfl rfl eg, ?_⟩
                clear eg
                have e0 : a.tmps.getD 5 undef = .int .i64 (i : Int) := hoff.slot 5 (no_dst (by kernel_rfl))
                go_simp
                exact ⟨_, rfl, rfl, Below.refl _ _⟩
              · intro a W hR hoff hd
                left
                have eg : a.tmps.getD 28 undef = .bool false := hd 11 _ rfl rfl
                refine ⟨wanted_of (ops := _) (j := 11) (b := false) rfl rfl rfl eg, ?_⟩
                clear eg
                have e0 : a.tmps.getD 29 undef = .slice (some ⟨b, o, none⟩) n c := hd 12 _ rfl rfl
                have e1 : a.tmps.getD 30 undef = .int .i64 (i : Int) := hd 13 _ rfl rfl
                go_simp
                exact ⟨_, rfl, rfl, Below.refl _ _⟩
              · intro a W hR hoff hd
                left
                have eg : a.tmps.getD 28 undef = .bool false := hd 11 _ rfl rfl
                refine ⟨wanted_of (ops := _) (j := 11) (b := false) rfl rfl rfl eg, ?_⟩
                clear eg
                have e0 : a.tmps.getD 31 undef = .pointer (some ⟨b, o + i * 4, none⟩) := hd 14 _ rfl rfl
                go_simp
                exact ⟨_, rfl, rfl, Below.refl _ _⟩
              · intro a W hR hoff hd
                left
                have eg : a.tmps.getD 28 undef = .bool false := hd 11 _ rfl rfl
                refine ⟨wanted_of (ops := _) (j := 11) (b := false) rfl rfl rfl eg, ?_⟩
                clear eg
                have e0 : a.tmps.getD 32 undef = .pointer (some ⟨b, o + i * 4 + 1, none⟩) := hd 15 _ rfl rfl
                go_simp
                exact ⟨_, rfl, rfl, Below.refl _ _⟩
              · intro a W hR hoff hd
                left
                have eg : a.tmps.getD 28 undef = .bool false := hd 11 _ rfl rfl
                refine ⟨wanted_of (ops := _) (j := 11) (b := false) rfl rfl rfl eg, ?_⟩
                clear eg
                have e0 : a.tmps.getD 33 undef = .pointer (some ⟨b, o + i * 4 + 1, none⟩) := hd 16 _ rfl rfl
                have c0 := cell_in (und hR) HL1.out D1.out
                go_simp
                exact ⟨_, rfl, rfl, Below.refl _ _⟩
              · intro a W hR hoff hd
                left
                have eg : a.tmps.getD 28 undef = .bool false := hd 11 _ rfl rfl
                refine ⟨wanted_of (ops := _) (j := 11) (b := false) rfl rfl rfl eg, ?_⟩
                clear eg
                have e0 : a.tmps.getD 1 undef = .slice (some ⟨b2, o2, none⟩) n c2 := hoff.slot 1 (no_dst (by kernel_rfl))
                go_simp
                exact ⟨_, rfl, rfl, Below.refl _ _⟩
              · intro a W hR hoff hd
                left
                have eg : a.tmps.getD 28 undef = .bool false := hd 11 _ rfl rfl
                refine ⟨wanted_of (ops := _) (j := 11) (b := false) rfl rfl rfl eg, ?_⟩
                clear eg
                have e0 : a.tmps.getD 5 undef = .int .i64 (i : Int) := hoff.slot 5 (no_dst (by kernel_rfl))
                go_simp
                exact ⟨_, rfl, rfl, Below.refl _ _⟩
              · intro a W hR hoff hd
                left
                have eg : a.tmps.getD 28 undef = .bool false := hd 11 _ rfl rfl
                refine ⟨wanted_of (ops := _) (j := 11) (b := false) rfl rfl rfl eg, ?_⟩
                clear eg
                have e0 : a.tmps.getD 35 undef = .slice (some ⟨b2, o2, none⟩) n c2 := hd 18 _ rfl rfl
                have e1 : a.tmps.getD 36 undef = .int .i64 (i : Int) := hd 19 _ rfl rfl
                go_simp
                exact ⟨_, rfl, rfl, Below.refl _ _⟩
              · intro a W hR hoff hd
                left
                have eg : a.tmps.getD 28 undef = .bool false := hd 11 _ rfl rfl
                refine ⟨wanted_of (ops := _) (j := 11) (b := false) rfl rfl rfl eg, ?_⟩
                clear eg
                have e0 : a.tmps.getD 37 undef = .pointer (some ⟨b2, o2 + i * 2, none⟩) := hd 20 _ rfl rfl
                go_simp
                exact ⟨_, rfl, rfl, Below.refl _ _⟩
              · intro a W hR hoff hd
                left
                have eg : a.tmps.getD 28 undef = .bool false := hd 11 _ rfl rfl
                refine ⟨wanted_of (ops := _) (j := 11) (b := false) rfl rfl rfl eg, ?_⟩
                clear eg
                have e0 : a.tmps.getD 38 undef = .pointer (some ⟨b2, o2 + i * 2 + 1, none⟩) := hd 21 _ rfl rfl
                have c0 := cell_in (und hR) HL2.out E1.out
                go_simp
                exact ⟨_, rfl, rfl, Below.refl _ _⟩
              · intro a W hR hoff hd
                left
                have eg : a.tmps.getD 28 undef = .bool false := hd 11 _ rfl rfl
                refine ⟨wanted_of (ops := _) (j := 11) (b := false) rfl rfl rfl eg, ?_⟩
                clear eg
                have e0 : a.tmps.getD 34 undef = .int .i64 k := hd 17 _ rfl rfl
                have e1 : a.tmps.getD 39 undef = .int .i64 kd := hd 22 _ rfl rfl
                go_simp
                first | exact ⟨_, rfl, rfl, Below.refl _ _⟩ | exact ⟨_, rfl, congrArg Value.bool (by assumption), Below.refl _ _⟩
              · intro a W hR hoff hd
                left
                refine ⟨rfl, ?_⟩
                have e0 : a.tmps.getD 28 undef = .bool false := hd 11 _ rfl rfl
                have e1 : a.tmps.getD 40 undef = .bool false := hd 23 _ rfl rfl
                go_simp
                exact ⟨_, rfl, rfl, Below.refl _ _⟩
              · intro a W hR hoff hd
                left
                refine ⟨rfl, ?_⟩
                have e0 : a.tmps.getD 41 undef = .bool false := hd 24 _ rfl rfl
                go_simp
                exact ⟨_, rfl, rfl, Below.refl _ _⟩
              · intro a W hR hoff hd
                left
                have eg : a.tmps.getD 42 undef = .bool false := hd 25 _ rfl rfl
                refine ⟨wanted_of (ops := _) (j := 25) (b := false) rfl rfl rfl eg, ?_⟩
                clear eg
                have e0 : a.tmps.getD 0 undef = .slice (some ⟨b, o, none⟩) n c := hoff.slot 0 (no_dst (by kernel_rfl))
                go_simp
                exact ⟨_, rfl, rfl, Below.refl _ _⟩
              · intro a W hR hoff hd
                left
                have eg : a.tmps.getD 42 undef = .bool false := hd 25 _ rfl rfl
                refine ⟨wanted_of (ops := _) (j := 25) (b := false) rfl rfl rfl eg, ?_⟩
                clear eg
                have e0 : a.tmps.getD 5 undef = .int .i64 (i : Int) := hoff.slot 5 (no_dst (by kernel_rfl))
                go_simp
                exact ⟨_, rfl, rfl, Below.refl _ _⟩
              · intro a W hR hoff hd
                left
                have eg : a.tmps.getD 42 undef = .bool false := hd 25 _ rfl rfl
                refine ⟨wanted_of (ops := _) (j := 25) (b := false) rfl rfl rfl eg, ?_⟩
                clear eg
                have e0 : a.tmps.getD 43 undef = .slice (some ⟨b, o, none⟩) n c := hd 26 _ rfl rfl
                have e1 : a.tmps.getD 44 undef = .int .i64 (i : Int) := hd 27 _ rfl rfl
                go_simp
                exact ⟨_, rfl, rfl, Below.refl _ _⟩
              · intro a W hR hoff hd
                left
                have eg : a.tmps.getD 42 undef = .bool false := hd 25 _ rfl rfl
                refine ⟨wanted_of (ops := _) (j := 25) (b := false) rfl rfl rfl eg, ?_⟩
                clear eg
                have e0 : a.tmps.getD 45 undef = .pointer (some ⟨b, o + i * 4, none⟩) := hd 28 _ rfl rfl
                go_simp
                exact ⟨_, rfl, rfl, Below.refl _ _⟩
              · intro a W hR hoff hd
                left
                have eg : a.tmps.getD 42 undef = .bool false := hd 25 _ rfl rfl
                refine ⟨wanted_of (ops := _) (j := 25) (b := false) rfl rfl rfl eg, ?_⟩
                clear eg
                have e0 : a.tmps.getD 46 undef = .pointer (some ⟨b, o + i * 4 + 1, none⟩) := hd 29 _ rfl rfl
                have c0 := cell_in (und hR) HL1.out D1.out
                have c1 := cell_in (und hR) HL1.out D2.out
                have c2 := cell_in (und hR) HL1.out D3.out
                go_simp
                exact ⟨_, rfl, rfl, Below.refl _ _⟩
              · intro a W hR hoff hd
                left
                have eg : a.tmps.getD 42 undef = .bool false := hd 25 _ rfl rfl
                refine ⟨wanted_of (ops := _) (j := 25) (b := false) rfl rfl rfl eg, ?_⟩
                clear eg
                have e0 : a.tmps.getD 47 undef = .agg #[.int .i64 k, .int .i64 m, .string s] := hd 30 _ rfl rfl
                go_simp
                refine (HM.out W).mono ?_
                rintro e W2 ⟨rfl, hb2⟩
                exact ⟨_, rfl, rfl, belR_of hR (Nat.le_refl _) hb2⟩
              · intro a W hR hoff hd
                left
                have eg : a.tmps.getD 42 undef = .bool false := hd 25 _ rfl rfl
                refine ⟨wanted_of (ops := _) (j := 25) (b := false) rfl rfl rfl eg, ?_⟩
                clear eg
                have e0 : a.tmps.getD 48 undef = .bool true := hd 31 _ rfl rfl
                go_simp
                exact ⟨_, rfl, rfl, Below.refl _ _⟩
              · intro a W hR hoff hd
                left
                refine ⟨rfl, ?_⟩
                have e0 : a.tmps.getD 42 undef = .bool false := hd 25 _ rfl rfl
                have e1 : a.tmps.getD 49 undef = .bool false := hd 32 _ rfl rfl
                go_simp
                exact ⟨_, rfl, rfl, Below.refl _ _⟩
            · intro a W hR hoff hd
              have eL : a.tmps.getD 50 undef = .bool false := hd 33 _ rfl
              have HBW := Lib.hid (HB.out.trans ((und hR).mono HB.out.size))
              obtain ⟨ys, hys, ha⟩ := off_form hoff (mask := [false, false, false, false, false, false, false, false, false, false, false, false, false, false, false, false, false, true, true, true, true, true, true, true, true, true, true, true, true, true, true, true, true, true, true, true, true, true, true, true, true, true, true, true, true, true, true, true, true, true, true]) (by kernel_rfl)
              rw [hys] at eL
              subst ha
              clear hd hR
              simp only [fillFrom, Nat.zero_add, Nat.reduceAdd] at *
              rw [eL]
              clear eL hys hoff
              rename_i hK
              refine hK _ _ ?_
              clear hK
              go_wp2_with fail
              go_roundg (n - (i + 1))
              case measure => omega
              case rel => exact ⟨i + 1, by go_num, by omega, Nat.le_refl _, HN, HBW⟩
    · have HT : Hid (fitsB l l2 = true) := Lib.hid (by rw [HI.out, List.drop_of_length_le (by omega), List.drop_of_length_le (by omega)]; rfl)
      go_wp2
      go_ret
      exact ⟨by rw [HT.out]; rfl, HB.out⟩
  · have HT : Hid (fitsB l l2 = false) := Lib.hid (fitsB_len (by omega))
    have hz : ((n : Int) == (n2 : Int)) = false := by simpa using (by omega : ¬ (n : Int) = (n2 : Int))
    have hz2 : ((n : Int) != (n2 : Int)) = true := by rw [bne, hz]; rfl
    have hz3 : ¬ (n : Int) = (n2 : Int) := by omega
    clear h h2
    go_enter Tryd.func27, Tryd.ntmps27
    go_wp2
    go_ret
    exact ⟨by rw [HT.out]; rfl, Below.refl _ _⟩
def fitsF1 (g b2 o2 n c2 i : Nat) (nm dn : ByteArray) (_k _kd _m : Int) (_s : ByteArray) : Nat → Value
  | 0 => .pointer (some ⟨g, 0, none⟩)
  | 1 => .string nm
  | 2 => .slice (some ⟨b2, o2, none⟩) n c2
  | 3 => .int .i64 (i : Int)
  | 4 => .pointer (some ⟨b2, o2 + i * 2, none⟩)
  | 5 => .pointer (some ⟨b2, o2 + i * 2, none⟩)
  | 6 => .string dn
  | 7 => .bool true
  | 8 => .bool true
  | 9 => undef
  | 10 => undef
  | 11 => undef
  | 12 => undef
  | 13 => undef
  | 14 => undef
  | 15 => undef
  | 16 => undef
  | 17 => undef
  | 18 => .bool true
  | 19 => .bool true
  | 20 => undef
  | 21 => undef
  | 22 => undef
  | 23 => undef
  | 24 => .bool true
  | _ => undef
def fitsF2 (g b2 o2 n c2 i : Nat) (nm dn : ByteArray) (k kd _m : Int) (_s : ByteArray) : Nat → Value
  | 0 => .pointer (some ⟨g, 0, none⟩)
  | 1 => .string nm
  | 2 => .slice (some ⟨b2, o2, none⟩) n c2
  | 3 => .int .i64 (i : Int)
  | 4 => .pointer (some ⟨b2, o2 + i * 2, none⟩)
  | 5 => .pointer (some ⟨b2, o2 + i * 2, none⟩)
  | 6 => .string dn
  | 7 => .bool false
  | 8 => .bool false
  | 9 => .pointer (some ⟨g, 1, none⟩)
  | 10 => .pointer (some ⟨g, 1, none⟩)
  | 11 => .int .i64 k
  | 12 => .slice (some ⟨b2, o2, none⟩) n c2
  | 13 => .int .i64 (i : Int)
  | 14 => .pointer (some ⟨b2, o2 + i * 2, none⟩)
  | 15 => .pointer (some ⟨b2, o2 + i * 2 + 1, none⟩)
  | 16 => .int .i64 kd
  | 17 => .bool true
  | 18 => .bool true
  | 19 => .bool true
  | 20 => undef
  | 21 => undef
  | 22 => undef
  | 23 => undef
  | 24 => .bool true
  | _ => undef
def fitsF3 (g b2 o2 n c2 i : Nat) (nm dn : ByteArray) (k kd m : Int) (s : ByteArray) : Nat → Value
  | 0 => .pointer (some ⟨g, 0, none⟩)
  | 1 => .string nm
  | 2 => .slice (some ⟨b2, o2, none⟩) n c2
  | 3 => .int .i64 (i : Int)
  | 4 => .pointer (some ⟨b2, o2 + i * 2, none⟩)
  | 5 => .pointer (some ⟨b2, o2 + i * 2, none⟩)
  | 6 => .string dn
  | 7 => .bool false
  | 8 => .bool false
  | 9 => .pointer (some ⟨g, 1, none⟩)
  | 10 => .pointer (some ⟨g, 1, none⟩)
  | 11 => .int .i64 k
  | 12 => .slice (some ⟨b2, o2, none⟩) n c2
  | 13 => .int .i64 (i : Int)
  | 14 => .pointer (some ⟨b2, o2 + i * 2, none⟩)
  | 15 => .pointer (some ⟨b2, o2 + i * 2 + 1, none⟩)
  | 16 => .int .i64 kd
  | 17 => .bool false
  | 18 => .bool false
  | 19 => .bool false
  | 20 => .pointer (some ⟨g, 1, none⟩)
  | 21 => .agg #[.int .i64 k, .int .i64 m, .string s]
  | 22 => .bool false
  | 23 => .bool true
  | 24 => .bool true
  | _ => undef
def fitsF4 (g b2 o2 n c2 i : Nat) (nm dn : ByteArray) (k kd m : Int) (s : ByteArray) : Nat → Value
  | 0 => .pointer (some ⟨g, 0, none⟩)
  | 1 => .string nm
  | 2 => .slice (some ⟨b2, o2, none⟩) n c2
  | 3 => .int .i64 (i : Int)
  | 4 => .pointer (some ⟨b2, o2 + i * 2, none⟩)
  | 5 => .pointer (some ⟨b2, o2 + i * 2, none⟩)
  | 6 => .string dn
  | 7 => .bool false
  | 8 => .bool false
  | 9 => .pointer (some ⟨g, 1, none⟩)
  | 10 => .pointer (some ⟨g, 1, none⟩)
  | 11 => .int .i64 k
  | 12 => .slice (some ⟨b2, o2, none⟩) n c2
  | 13 => .int .i64 (i : Int)
  | 14 => .pointer (some ⟨b2, o2 + i * 2, none⟩)
  | 15 => .pointer (some ⟨b2, o2 + i * 2 + 1, none⟩)
  | 16 => .int .i64 kd
  | 17 => .bool false
  | 18 => .bool false
  | 19 => .bool false
  | 20 => .pointer (some ⟨g, 1, none⟩)
  | 21 => .agg #[.int .i64 k, .int .i64 m, .string s]
  | 22 => .bool true
  | 23 => .bool false
  | 24 => .bool false
  | _ => undef
set_option maxHeartbeats 16000000 in
set_option maxRecDepth 100000 in
theorem fits_any (w : World) (A A2 : Option Addr) (n c n2 c2 : Nat) (l : List Vr) (l2 : List Dc) (h : HR w A n c l) (h2 : HD w A2 n2 c2 l2) (hn : n ≤ 140737488355328) : Calls Tryd.prog 26 #[.slice A n c, .slice A2 n2 c2] w fun e w' => e = .returned (.bool (fitsB l l2)) ∧ Below w.heap.size w w' := by
  have hln := h.1
  have hln2 := h2.1
  by_cases hnn : n = n2
  · subst hnn
    have HH := Lib.hid h
    have HH2 := Lib.hid h2
    clear h h2
    go_enter Tryd.func26, Tryd.ntmps26
    go_wp2
    go_loopg [14] n (fun kx vi wr => ∃ i : Nat, vi = .int .i64 (i : Int) ∧ i ≤ n ∧ n - i ≤ kx ∧ Hid (fitsB l l2 = fitsB (l.drop i) (l2.drop i)) ∧ Hid (Below w.heap.size w wr))
    case atStart => exact ⟨0, rfl, Nat.zero_le _, Nat.le_refl _, Lib.hid rfl, Lib.hid (Below.refl _ _)⟩
    case round =>
    obtain ⟨i, rfl, hi, hkx, HI, HB⟩ := hrel
    by_cases he : i < n
    · have hil : i < l.length := by omega
      have hil2 : i < l2.length := by omega
      obtain ⟨b, o, rfl, hlt, e0, e1, e2, e3⟩ := HH.out.elem i hil
      obtain ⟨b2, o2, rfl, hlt2, g0, g1⟩ := HH2.out.elem i hil2
      have D0 := Lib.hid ((HB.out.cell (p := ⟨b, o + i * 4, none⟩) hlt).trans e0)
      have D1 := Lib.hid ((HB.out.cell (p := ⟨b, o + i * 4 + 1, none⟩) hlt).trans e1)
      have D2 := Lib.hid ((HB.out.cell (p := ⟨b, o + i * 4 + 2, none⟩) hlt).trans e2)
      have D3 := Lib.hid ((HB.out.cell (p := ⟨b, o + i * 4 + 3, none⟩) hlt).trans e3)
      have E0 := Lib.hid ((HB.out.cell (p := ⟨b2, o2 + i * 2, none⟩) hlt2).trans g0)
      have E1 := Lib.hid ((HB.out.cell (p := ⟨b2, o2 + i * 2 + 1, none⟩) hlt2).trans g1)
      have HL1 := Lib.hid (Nat.lt_of_lt_of_le hlt HB.out.size)
      have HL2 := Lib.hid (Nat.lt_of_lt_of_le hlt2 HB.out.size)
      have HAT := Lib.hid (HI.out.trans (fitsB_at hil hil2))
      clear e0 e1 e2 e3 g0 g1 HI
      have hiz : (0 : Int) ≤ (i : Int) := by omega
      have hiz2 : (i : Int) < (n : Int) := by omega
      generalize l[i] = x at *
      generalize l2[i] = y at *
      obtain ⟨nm, k, m, s⟩ := x
      obtain ⟨dn, kd⟩ := y
      simp only at D0 D1 D2 D3 E0 E1
      have HM := Lib.hid (fun W => may_any W k m s)
      have d0 := D0.out
      have d1 := D1.out
      have d2 := D2.out
      have d3 := D3.out
      go_wp2_with fail
      clear d0 d1 d2 d3 D0 D1 D2 D3 HL1
      obtain ⟨W1, hW1⟩ : ∃ W1, W1 = wr.alloc (.cells #[.string nm, .int .i64 k, .int .i64 m, .string s] 42 (0, 0)) := ⟨_, rfl⟩
      have HB1 := Lib.hid (show Below w.heap.size w W1 by rw [hW1]; exact HB.out.alloc HB.out.size _)
      have hA1 : Below wr.heap.size wr W1 := by rw [hW1]; exact (Below.refl _ _).alloc (Nat.le_refl _) _
      have hx1 : Bx 42 W1 wr.heap.size #[.string nm, .int .i64 k, .int .i64 m, .string s] := by rw [hW1]; exact Bx.new _ _ _
      have D0 := Lib.hid (hx1.c (j := 0) rfl)
      have D1 := Lib.hid (hx1.c (j := 1) rfl)
      have D2 := Lib.hid (hx1.c (j := 2) rfl)
      have D3 := Lib.hid (hx1.c (j := 3) rfl)
      have HL1 := Lib.hid hx1.lt
      replace E0 := Lib.hid (cell_in hA1 HL2.out E0.out)
      replace E1 := Lib.hid (cell_in hA1 HL2.out E1.out)
      replace HL2 := Lib.hid (Nat.lt_of_lt_of_le HL2.out hA1.size)
      rw [← hW1]
      clear hA1 hx1 hW1
      generalize wr.heap.size = g at *
      cases hq : (nm.toList == dn.toList) with
      | false =>
        have hq2 : (nm.toList != dn.toList) = true := by rw [bne, hq]; rfl
        have HT : Hid (fitsB l l2 = false) := Lib.hid (by rw [HAT.out]; unfold fitX; simp only [hq, Bool.false_and])
        clear HAT HM
        refine wp_region_steps (fun j v _ => v = fitsF1 g b2 o2 n c2 i nm dn k kd m s j) (belR W1.heap.size) (by kernel_rfl) (by kernel_rfl) (fun _ => Below.refl _ _) (fun _ _ _ h k => belR_trans h k) (fun _ _ _ _ h _ => h) ?_ ?_
        · refine ⟨?_, ?_, ?_, ?_, ?_, ?_, ?_, ?_, ?_, ?_, ?_, ?_, ?_, ?_, ?_, ?_, ?_, ?_, ?_, ?_, ?_, ?_, ?_, ?_, ?_, trivial⟩
          · intro a W hR hoff hd
            left
            refine ⟨rfl, ?_⟩
            have e0 : a.tmps.getD 6 undef = .pointer (some ⟨g, 0, none⟩) := hoff.slot 6 (no_dst (by kernel_rfl))
            go_simp
            exact ⟨_, rfl, rfl, Below.refl _ _⟩
          · intro a W hR hoff hd
            left
            refine ⟨rfl, ?_⟩
            have e0 : a.tmps.getD 19 undef = .pointer (some ⟨g, 0, none⟩) := hd 0 _ rfl rfl
            have c0 := cell_in (und hR) HL1.out D0.out
            go_simp
            exact ⟨_, rfl, rfl, Below.refl _ _⟩
          · intro a W hR hoff hd
            left
            refine ⟨rfl, ?_⟩
            have e0 : a.tmps.getD 1 undef = .slice (some ⟨b2, o2, none⟩) n c2 := hoff.slot 1 (no_dst (by kernel_rfl))
            go_simp
            exact ⟨_, rfl, rfl, Below.refl _ _⟩
          · intro a W hR hoff hd
            left
            refine ⟨rfl, ?_⟩
            have e0 : a.tmps.getD 5 undef = .int .i64 (i : Int) := hoff.slot 5 (no_dst (by kernel_rfl))
            go_simp
            exact ⟨_, rfl, rfl, Below.refl _ _⟩
          · intro a W hR hoff hd
            left
            refine ⟨rfl, ?_⟩
            have e0 : a.tmps.getD 21 undef = .slice (some ⟨b2, o2, none⟩) n c2 := hd 2 _ rfl rfl
            have e1 : a.tmps.getD 22 undef = .int .i64 (i : Int) := hd 3 _ rfl rfl
            go_simp
            exact ⟨_, rfl, rfl, Below.refl _ _⟩
          · intro a W hR hoff hd
            left
            refine ⟨rfl, ?_⟩
            have e0 : a.tmps.getD 23 undef = .pointer (some ⟨b2, o2 + i * 2, none⟩) := hd 4 _ rfl rfl
            go_simp
            exact ⟨_, rfl, rfl, Below.refl _ _⟩
          · intro a W hR hoff hd
            left
            refine ⟨rfl, ?_⟩
            have e0 : a.tmps.getD 24 undef = .pointer (some ⟨b2, o2 + i * 2, none⟩) := hd 5 _ rfl rfl
            have c0 := cell_in (und hR) HL2.out E0.out
            go_simp
            exact ⟨_, rfl, rfl, Below.refl _ _⟩
          · intro a W hR hoff hd
            left
            refine ⟨rfl, ?_⟩
            have e0 : a.tmps.getD 20 undef = .string nm := hd 1 _ rfl rfl
            have e1 : a.tmps.getD 25 undef = .string dn := hd 6 _ rfl rfl
            go_simp
            first | exact ⟨_, rfl, rfl, Below.refl _ _⟩ | exact ⟨_, rfl, congrArg Value.bool (by assumption), Below.refl _ _⟩
          · intro a W hR hoff hd
            left
            refine ⟨rfl, ?_⟩
            have e0 : a.tmps.getD 26 undef = .bool true := hd 7 _ rfl rfl
            go_simp
            exact ⟨_, rfl, rfl, Below.refl _ _⟩
          · intro a W hR hoff hd
            right
            have eg : a.tmps.getD 27 undef = .bool true := hd 8 _ rfl rfl
            exact ⟨unwanted_of (ops := _) (j := 8) (b := false) rfl rfl rfl (b2 := true) (by decide) eg, rfl⟩
          · intro a W hR hoff hd
            right
            have eg : a.tmps.getD 27 undef = .bool true := hd 8 _ rfl rfl
            exact ⟨unwanted_of (ops := _) (j := 8) (b := false) rfl rfl rfl (b2 := true) (by decide) eg, rfl⟩
          · intro a W hR hoff hd
            right
            have eg : a.tmps.getD 27 undef = .bool true := hd 8 _ rfl rfl
            exact ⟨unwanted_of (ops := _) (j := 8) (b := false) rfl rfl rfl (b2 := true) (by decide) eg, rfl⟩
          · intro a W hR hoff hd
            right
            have eg : a.tmps.getD 27 undef = .bool true := hd 8 _ rfl rfl
            exact ⟨unwanted_of (ops := _) (j := 8) (b := false) rfl rfl rfl (b2 := true) (by decide) eg, rfl⟩
          · intro a W hR hoff hd
            right
            have eg : a.tmps.getD 27 undef = .bool true := hd 8 _ rfl rfl
            exact ⟨unwanted_of (ops := _) (j := 8) (b := false) rfl rfl rfl (b2 := true) (by decide) eg, rfl⟩
          · intro a W hR hoff hd
            right
            have eg : a.tmps.getD 27 undef = .bool true := hd 8 _ rfl rfl
            exact ⟨unwanted_of (ops := _) (j := 8) (b := false) rfl rfl rfl (b2 := true) (by decide) eg, rfl⟩
          · intro a W hR hoff hd
            right
            have eg : a.tmps.getD 27 undef = .bool true := hd 8 _ rfl rfl
            exact ⟨unwanted_of (ops := _) (j := 8) (b := false) rfl rfl rfl (b2 := true) (by decide) eg, rfl⟩
          · intro a W hR hoff hd
            right
            have eg : a.tmps.getD 27 undef = .bool true := hd 8 _ rfl rfl
            exact ⟨unwanted_of (ops := _) (j := 8) (b := false) rfl rfl rfl (b2 := true) (by decide) eg, rfl⟩
          · intro a W hR hoff hd
            right
            have eg : a.tmps.getD 27 undef = .bool true := hd 8 _ rfl rfl
            exact ⟨unwanted_of (ops := _) (j := 8) (b := false) rfl rfl rfl (b2 := true) (by decide) eg, rfl⟩
          · intro a W hR hoff hd
            left
            refine ⟨rfl, ?_⟩
            have e0 : a.tmps.getD 27 undef = .bool true := hd 8 _ rfl rfl
            have e1 : a.tmps.getD 36 undef = undef := hd 17 _ rfl rfl
            go_simp
            exact ⟨_, rfl, rfl, Below.refl _ _⟩
          · intro a W hR hoff hd
            left
            refine ⟨rfl, ?_⟩
            have e0 : a.tmps.getD 37 undef = .bool true := hd 18 _ rfl rfl
            go_simp
            exact ⟨_, rfl, rfl, Below.refl _ _⟩
          · intro a W hR hoff hd
            right
            have eg : a.tmps.getD 38 undef = .bool true := hd 19 _ rfl rfl
            exact ⟨unwanted_of (ops := _) (j := 19) (b := false) rfl rfl rfl (b2 := true) (by decide) eg, rfl⟩
          · intro a W hR hoff hd
            right
            have eg : a.tmps.getD 38 undef = .bool true := hd 19 _ rfl rfl
            exact ⟨unwanted_of (ops := _) (j := 19) (b := false) rfl rfl rfl (b2 := true) (by decide) eg, rfl⟩
          · intro a W hR hoff hd
            right
            have eg : a.tmps.getD 38 undef = .bool true := hd 19 _ rfl rfl
            exact ⟨unwanted_of (ops := _) (j := 19) (b := false) rfl rfl rfl (b2 := true) (by decide) eg, rfl⟩
          · intro a W hR hoff hd
            right
            have eg : a.tmps.getD 38 undef = .bool true := hd 19 _ rfl rfl
            exact ⟨unwanted_of (ops := _) (j := 19) (b := false) rfl rfl rfl (b2 := true) (by decide) eg, rfl⟩
          · intro a W hR hoff hd
            left
            refine ⟨rfl, ?_⟩
            have e0 : a.tmps.getD 38 undef = .bool true := hd 19 _ rfl rfl
            have e1 : a.tmps.getD 42 undef = undef := hd 23 _ rfl rfl
            go_simp
            exact ⟨_, rfl, rfl, Below.refl _ _⟩
        · intro a W hR hoff hd
          have eL : a.tmps.getD 43 undef = .bool true := hd 24 _ rfl
          have HBW := Lib.hid (HB1.out.trans ((und hR).mono HB1.out.size))
          obtain ⟨ys, hys, ha⟩ := off_form hoff (mask := [false, false, false, false, false, false, false, false, false, false, false, false, false, false, false, false, false, false, false, true, true, true, true, true, true, true, true, true, true, true, true, true, true, true, true, true, true, true, true, true, true, true, true, true, false]) (by kernel_rfl)
          rw [hys] at eL
          subst ha
          clear hd hR
          simp only [fillFrom, Nat.zero_add, Nat.reduceAdd] at *
          rw [eL]
          clear eL hys hoff
          rename_i hK
          refine hK _ _ ?_
          clear hK
          go_wp2_with fail
          go_ret
          exact ⟨by rw [HT.out]; rfl, HBW.out⟩
      | true =>
        have hq2 : (nm.toList != dn.toList) = false := by rw [bne, hq]; rfl
        cases hkk : (k == kd) with
        | false =>
          have hk2 : (k != kd) = true := by rw [bne, hkk]; rfl
          have hk3 : decide (k = kd) = false := by rw [← hkk]; rfl
          have HT : Hid (fitsB l l2 = false) := Lib.hid (by rw [HAT.out]; unfold fitX; simp only [hq, hkk, Bool.true_and, Bool.false_and])
          clear HAT HM
          refine wp_region_steps (fun j v _ => v = fitsF2 g b2 o2 n c2 i nm dn k kd m s j) (belR W1.heap.size) (by kernel_rfl) (by kernel_rfl) (fun _ => Below.refl _ _) (fun _ _ _ h k => belR_trans h k) (fun _ _ _ _ h _ => h) ?_ ?_
          · refine ⟨?_, ?_, ?_, ?_, ?_, ?_, ?_, ?_, ?_, ?_, ?_, ?_, ?_, ?_, ?_, ?_, ?_, ?_, ?_, ?_, ?_, ?_, ?_, ?_, ?_, trivial⟩
            · intro a W hR hoff hd
              left
              refine ⟨rfl, ?_⟩
              have e0 : a.tmps.getD 6 undef = .pointer (some ⟨g, 0, none⟩) := hoff.slot 6 (no_dst (by kernel_rfl))
              go_simp
              exact ⟨_, rfl, rfl, Below.refl _ _⟩
            · intro a W hR hoff hd
              left
              refine ⟨rfl, ?_⟩
              have e0 : a.tmps.getD 19 undef = .pointer (some ⟨g, 0, none⟩) := hd 0 _ rfl rfl
              have c0 := cell_in (und hR) HL1.out D0.out
              go_simp
              exact ⟨_, rfl, rfl, Below.refl _ _⟩
            · intro a W hR hoff hd
              left
              refine ⟨rfl, ?_⟩
              have e0 : a.tmps.getD 1 undef = .slice (some ⟨b2, o2, none⟩) n c2 := hoff.slot 1 (no_dst (by kernel_rfl))
              go_simp
              exact ⟨_, rfl, rfl, Below.refl _ _⟩
            · intro a W hR hoff hd
              left
              refine ⟨rfl, ?_⟩
              have e0 : a.tmps.getD 5 undef = .int .i64 (i : Int) := hoff.slot 5 (no_dst (by kernel_rfl))
              go_simp
              exact ⟨_, rfl, rfl, Below.refl _ _⟩
            · intro a W hR hoff hd
              left
              refine ⟨rfl, ?_⟩
              have e0 : a.tmps.getD 21 undef = .slice (some ⟨b2, o2, none⟩) n c2 := hd 2 _ rfl rfl
              have e1 : a.tmps.getD 22 undef = .int .i64 (i : Int) := hd 3 _ rfl rfl
              go_simp
              exact ⟨_, rfl, rfl, Below.refl _ _⟩
            · intro a W hR hoff hd
              left
              refine ⟨rfl, ?_⟩
              have e0 : a.tmps.getD 23 undef = .pointer (some ⟨b2, o2 + i * 2, none⟩) := hd 4 _ rfl rfl
              go_simp
              exact ⟨_, rfl, rfl, Below.refl _ _⟩
            · intro a W hR hoff hd
              left
              refine ⟨rfl, ?_⟩
              have e0 : a.tmps.getD 24 undef = .pointer (some ⟨b2, o2 + i * 2, none⟩) := hd 5 _ rfl rfl
              have c0 := cell_in (und hR) HL2.out E0.out
              go_simp
              exact ⟨_, rfl, rfl, Below.refl _ _⟩
            · intro a W hR hoff hd
              left
              refine ⟨rfl, ?_⟩
              have e0 : a.tmps.getD 20 undef = .string nm := hd 1 _ rfl rfl
              have e1 : a.tmps.getD 25 undef = .string dn := hd 6 _ rfl rfl
              go_simp
              first | exact ⟨_, rfl, rfl, Below.refl _ _⟩ | exact ⟨_, rfl, congrArg Value.bool (by assumption), Below.refl _ _⟩
            · intro a W hR hoff hd
              left
              refine ⟨rfl, ?_⟩
              have e0 : a.tmps.getD 26 undef = .bool false := hd 7 _ rfl rfl
              go_simp
              exact ⟨_, rfl, rfl, Below.refl _ _⟩
            · intro a W hR hoff hd
              left
              have eg : a.tmps.getD 27 undef = .bool false := hd 8 _ rfl rfl
              refine ⟨wanted_of (ops := _) (j := 8) (b := false) rfl rfl rfl eg, ?_⟩
              clear eg
              have e0 : a.tmps.getD 6 undef = .pointer (some ⟨g, 0, none⟩) := hoff.slot 6 (no_dst (by kernel_rfl))
              go_simp
              exact ⟨_, rfl, rfl, Below.refl _ _⟩
            · intro a W hR hoff hd
              left
              have eg : a.tmps.getD 27 undef = .bool false := hd 8 _ rfl rfl
              refine ⟨wanted_of (ops := _) (j := 8) (b := false) rfl rfl rfl eg, ?_⟩
              clear eg
              have e0 : a.tmps.getD 28 undef = .pointer (some ⟨g, 1, none⟩) := hd 9 _ rfl rfl
              go_simp
              exact ⟨_, rfl, rfl, Below.refl _ _⟩
            · intro a W hR hoff hd
              left
              have eg : a.tmps.getD 27 undef = .bool false := hd 8 _ rfl rfl
              refine ⟨wanted_of (ops := _) (j := 8) (b := false) rfl rfl rfl eg, ?_⟩
              clear eg
              have e0 : a.tmps.getD 29 undef = .pointer (some ⟨g, 1, none⟩) := hd 10 _ rfl rfl
              have c0 := cell_in (und hR) HL1.out D1.out
              go_simp
              exact ⟨_, rfl, rfl, Below.refl _ _⟩
            · intro a W hR hoff hd
              left
              have eg : a.tmps.getD 27 undef = .bool false := hd 8 _ rfl rfl
              refine ⟨wanted_of (ops := _) (j := 8) (b := false) rfl rfl rfl eg, ?_⟩
              clear eg
              have e0 : a.tmps.getD 1 undef = .slice (some ⟨b2, o2, none⟩) n c2 := hoff.slot 1 (no_dst (by kernel_rfl))
              go_simp
              exact ⟨_, rfl, rfl, Below.refl _ _⟩
            · intro a W hR hoff hd
              left
              have eg : a.tmps.getD 27 undef = .bool false := hd 8 _ rfl rfl
              refine ⟨wanted_of (ops := _) (j := 8) (b := false) rfl rfl rfl eg, ?_⟩
              clear eg
              have e0 : a.tmps.getD 5 undef = .int .i64 (i : Int) := hoff.slot 5 (no_dst (by kernel_rfl))
              go_simp
              exact ⟨_, rfl, rfl, Below.refl _ _⟩
            · intro a W hR hoff hd
              left
              have eg : a.tmps.getD 27 undef = .bool false := hd 8 _ rfl rfl
              refine ⟨wanted_of (ops := _) (j := 8) (b := false) rfl rfl rfl eg, ?_⟩
              clear eg
              have e0 : a.tmps.getD 31 undef = .slice (some ⟨b2, o2, none⟩) n c2 := hd 12 _ rfl rfl
              have e1 : a.tmps.getD 32 undef = .int .i64 (i : Int) := hd 13 _ rfl rfl
              go_simp
              exact ⟨_, rfl, rfl, Below.refl _ _⟩
            · intro a W hR hoff hd
              left
              have eg : a.tmps.getD 27 undef = .bool false := hd 8 _ rfl rfl
              refine ⟨wanted_of (ops := _) (j := 8) (b := false) rfl rfl rfl eg, ?_⟩
              clear eg
              have e0 : a.tmps.getD 33 undef = .pointer (some ⟨b2, o2 + i * 2, none⟩) := hd 14 _ rfl rfl
              go_simp
              exact ⟨_, rfl, rfl, Below.refl _ _⟩
            · intro a W hR hoff hd
              left
              have eg : a.tmps.getD 27 undef = .bool false := hd 8 _ rfl rfl
              refine ⟨wanted_of (ops := _) (j := 8) (b := false) rfl rfl rfl eg, ?_⟩
              clear eg
              have e0 : a.tmps.getD 34 undef = .pointer (some ⟨b2, o2 + i * 2 + 1, none⟩) := hd 15 _ rfl rfl
              have c0 := cell_in (und hR) HL2.out E1.out
              go_simp
              exact ⟨_, rfl, rfl, Below.refl _ _⟩
            · intro a W hR hoff hd
              left
              have eg : a.tmps.getD 27 undef = .bool false := hd 8 _ rfl rfl
              refine ⟨wanted_of (ops := _) (j := 8) (b := false) rfl rfl rfl eg, ?_⟩
              clear eg
              have e0 : a.tmps.getD 30 undef = .int .i64 k := hd 11 _ rfl rfl
              have e1 : a.tmps.getD 35 undef = .int .i64 kd := hd 16 _ rfl rfl
              go_simp
              first | exact ⟨_, rfl, rfl, Below.refl _ _⟩ | exact ⟨_, rfl, congrArg Value.bool (by assumption), Below.refl _ _⟩
            · intro a W hR hoff hd
              left
              refine ⟨rfl, ?_⟩
              have e0 : a.tmps.getD 27 undef = .bool false := hd 8 _ rfl rfl
              have e1 : a.tmps.getD 36 undef = .bool true := hd 17 _ rfl rfl
              go_simp
              exact ⟨_, rfl, rfl, Below.refl _ _⟩
            · intro a W hR hoff hd
              left
              refine ⟨rfl, ?_⟩
              have e0 : a.tmps.getD 37 undef = .bool true := hd 18 _ rfl rfl
              go_simp
              exact ⟨_, rfl, rfl, Below.refl _ _⟩
            · intro a W hR hoff hd
              right
              have eg : a.tmps.getD 38 undef = .bool true := hd 19 _ rfl rfl
              exact ⟨unwanted_of (ops := _) (j := 19) (b := false) rfl rfl rfl (b2 := true) (by decide) eg, rfl⟩
            · intro a W hR hoff hd
              right
              have eg : a.tmps.getD 38 undef = .bool true := hd 19 _ rfl rfl
              exact ⟨unwanted_of (ops := _) (j := 19) (b := false) rfl rfl rfl (b2 := true) (by decide) eg, rfl⟩
            · intro a W hR hoff hd
              right
              have eg : a.tmps.getD 38 undef = .bool true := hd 19 _ rfl rfl
              exact ⟨unwanted_of (ops := _) (j := 19) (b := false) rfl rfl rfl (b2 := true) (by decide) eg, rfl⟩
            · intro a W hR hoff hd
              right
              have eg : a.tmps.getD 38 undef = .bool true := hd 19 _ rfl rfl
              exact ⟨unwanted_of (ops := _) (j := 19) (b := false) rfl rfl rfl (b2 := true) (by decide) eg, rfl⟩
            · intro a W hR hoff hd
              left
              refine ⟨rfl, ?_⟩
              have e0 : a.tmps.getD 38 undef = .bool true := hd 19 _ rfl rfl
              have e1 : a.tmps.getD 42 undef = undef := hd 23 _ rfl rfl
              go_simp
              exact ⟨_, rfl, rfl, Below.refl _ _⟩
          · intro a W hR hoff hd
            have eL : a.tmps.getD 43 undef = .bool true := hd 24 _ rfl
            have HBW := Lib.hid (HB1.out.trans ((und hR).mono HB1.out.size))
            obtain ⟨ys, hys, ha⟩ := off_form hoff (mask := [false, false, false, false, false, false, false, false, false, false, false, false, false, false, false, false, false, false, false, true, true, true, true, true, true, true, true, true, true, true, true, true, true, true, true, true, true, true, true, true, true, true, true, true, false]) (by kernel_rfl)
            rw [hys] at eL
            subst ha
            clear hd hR
            simp only [fillFrom, Nat.zero_add, Nat.reduceAdd] at *
            rw [eL]
            clear eL hys hoff
            rename_i hK
            refine hK _ _ ?_
            clear hK
            go_wp2_with fail
            go_ret
            exact ⟨by rw [HT.out]; rfl, HBW.out⟩
        | true =>
          have hk2 : (k != kd) = false := by rw [bne, hkk]; rfl
          have hk3 : decide (k = kd) = true := by rw [← hkk]; rfl
          cases hmb : mayV ⟨k, m, s⟩ with
          | false =>
            rw [hmb] at HM
            have HT : Hid (fitsB l l2 = false) := Lib.hid (by rw [HAT.out]; unfold fitX; simp only [hq, hkk, hmb, Bool.true_and, Bool.false_and])
            clear HAT hmb
            refine wp_region_steps (fun j v _ => v = fitsF3 g b2 o2 n c2 i nm dn k kd m s j) (belR W1.heap.size) (by kernel_rfl) (by kernel_rfl) (fun _ => Below.refl _ _) (fun _ _ _ h k => belR_trans h k) (fun _ _ _ _ h _ => h) ?_ ?_
            · refine ⟨?_, ?_, ?_, ?_, ?_, ?_, ?_, ?_, ?_, ?_, ?_, ?_, ?_, ?_, ?_, ?_, ?_, ?_, ?_, ?_, ?_, ?_, ?_, ?_, ?_, trivial⟩
              · intro a W hR hoff hd
                left
                refine ⟨rfl, ?_⟩
                have e0 : a.tmps.getD 6 undef = .pointer (some ⟨g, 0, none⟩) := hoff.slot 6 (no_dst (by kernel_rfl))
                go_simp
                exact ⟨_, rfl, rfl, Below.refl _ _⟩
              · intro a W hR hoff hd
                left
                refine ⟨rfl, ?_⟩
                have e0 : a.tmps.getD 19 undef = .pointer (some ⟨g, 0, none⟩) := hd 0 _ rfl rfl
                have c0 := cell_in (und hR) HL1.out D0.out
                go_simp
                exact ⟨_, rfl, rfl, Below.refl _ _⟩
              · intro a W hR hoff hd
                left
                refine ⟨rfl, ?_⟩
                have e0 : a.tmps.getD 1 undef = .slice (some ⟨b2, o2, none⟩) n c2 := hoff.slot 1 (no_dst (by kernel_rfl))
                go_simp
                exact ⟨_, rfl, rfl, Below.refl _ _⟩
              · intro a W hR hoff hd
                left
                refine ⟨rfl, ?_⟩
                have e0 : a.tmps.getD 5 undef = .int .i64 (i : Int) := hoff.slot 5 (no_dst (by kernel_rfl))
                go_simp
                exact ⟨_, rfl, rfl, Below.refl _ _⟩
              · intro a W hR hoff hd
                left
                refine ⟨rfl, ?_⟩
                have e0 : a.tmps.getD 21 undef = .slice (some ⟨b2, o2, none⟩) n c2 := hd 2 _ rfl rfl
                have e1 : a.tmps.getD 22 undef = .int .i64 (i : Int) := hd 3 _ rfl rfl
                go_simp
                exact ⟨_, rfl, rfl, Below.refl _ _⟩
              · intro a W hR hoff hd
                left
                refine ⟨rfl, ?_⟩
                have e0 : a.tmps.getD 23 undef = .pointer (some ⟨b2, o2 + i * 2, none⟩) := hd 4 _ rfl rfl
                go_simp
                exact ⟨_, rfl, rfl, Below.refl _ _⟩
              · intro a W hR hoff hd
                left
                refine ⟨rfl, ?_⟩
                have e0 : a.tmps.getD 24 undef = .pointer (some ⟨b2, o2 + i * 2, none⟩) := hd 5 _ rfl rfl
                have c0 := cell_in (und hR) HL2.out E0.out
                go_simp
                exact ⟨_, rfl, rfl, Below.refl _ _⟩
              · intro a W hR hoff hd
                left
                refine ⟨rfl, ?_⟩
                have e0 : a.tmps.getD 20 undef = .string nm := hd 1 _ rfl rfl
                have e1 : a.tmps.getD 25 undef = .string dn := hd 6 _ rfl rfl
                go_simp
                first | exact ⟨_, rfl, rfl, Below.refl _ _⟩ | exact ⟨_, rfl, congrArg Value.bool (by assumption), Below.refl _ _⟩
              · intro a W hR hoff hd
                left
                refine ⟨rfl, ?_⟩
                have e0 : a.tmps.getD 26 undef = .bool false := hd 7 _ rfl rfl
                go_simp
                exact ⟨_, rfl, rfl, Below.refl _ _⟩
              · intro a W hR hoff hd
                left
                have eg : a.tmps.getD 27 undef = .bool false := hd 8 _ rfl rfl
                refine ⟨wanted_of (ops := _) (j := 8) (b := false) rfl rfl rfl eg, ?_⟩
                clear eg
                have e0 : a.tmps.getD 6 undef = .pointer (some ⟨g, 0, none⟩) := hoff.slot 6 (no_dst (by kernel_rfl))
                go_simp
                exact ⟨_, rfl, rfl, Below.refl _ _⟩
              · intro a W hR hoff hd
                left
                have eg : a.tmps.getD 27 undef = .bool false := hd 8 _ rfl rfl
                refine ⟨wanted_of (ops := _) (j := 8) (b := false) rfl rfl rfl eg, ?_⟩
                clear eg
                have e0 : a.tmps.getD 28 undef = .pointer (some ⟨g, 1, none⟩) := hd 9 _ rfl rfl
                go_simp
                exact ⟨_, rfl, rfl, Below.refl _ _⟩
              · intro a W hR hoff hd
                left
                have eg : a.tmps.getD 27 undef = .bool false := hd 8 _ rfl rfl
                refine ⟨wanted_of (ops := _) (j := 8) (b := false) rfl rfl rfl eg, ?_⟩
                clear eg
                have e0 : a.tmps.getD 29 undef = .pointer (some ⟨g, 1, none⟩) := hd 10 _ rfl rfl
                have c0 := cell_in (und hR) HL1.out D1.out
                go_simp
                exact ⟨_, rfl, rfl, Below.refl _ _⟩
              · intro a W hR hoff hd
                left
                have eg : a.tmps.getD 27 undef = .bool false := hd 8 _ rfl rfl
                refine ⟨wanted_of (ops := _) (j := 8) (b := false) rfl rfl rfl eg, ?_⟩
                clear eg
                have e0 : a.tmps.getD 1 undef = .slice (some ⟨b2, o2, none⟩) n c2 := hoff.slot 1 (no_dst (by kernel_rfl))
                go_simp
                exact ⟨_, rfl, rfl, Below.refl _ _⟩
              · intro a W hR hoff hd
                left
                have eg : a.tmps.getD 27 undef = .bool false := hd 8 _ rfl rfl
                refine ⟨wanted_of (ops := _) (j := 8) (b := false) rfl rfl rfl eg, ?_⟩
                clear eg
                have e0 : a.tmps.getD 5 undef = .int .i64 (i : Int) := hoff.slot 5 (no_dst (by kernel_rfl))
                go_simp
                exact ⟨_, rfl, rfl, Below.refl _ _⟩
              · intro a W hR hoff hd
                left
                have eg : a.tmps.getD 27 undef = .bool false := hd 8 _ rfl rfl
                refine ⟨wanted_of (ops := _) (j := 8) (b := false) rfl rfl rfl eg, ?_⟩
                clear eg
                have e0 : a.tmps.getD 31 undef = .slice (some ⟨b2, o2, none⟩) n c2 := hd 12 _ rfl rfl
                have e1 : a.tmps.getD 32 undef = .int .i64 (i : Int) := hd 13 _ rfl rfl
                go_simp
                exact ⟨_, rfl, rfl, Below.refl _ _⟩
              · intro a W hR hoff hd
                left
                have eg : a.tmps.getD 27 undef = .bool false := hd 8 _ rfl rfl
                refine ⟨wanted_of (ops := _) (j := 8) (b := false) rfl rfl rfl eg, ?_⟩
                clear eg
                have e0 : a.tmps.getD 33 undef = .pointer (some ⟨b2, o2 + i * 2, none⟩) := hd 14 _ rfl rfl
                go_simp
                exact ⟨_, rfl, rfl, Below.refl _ _⟩
              · intro a W hR hoff hd
                left
                have eg : a.tmps.getD 27 undef = .bool false := hd 8 _ rfl rfl
                refine ⟨wanted_of (ops := _) (j := 8) (b := false) rfl rfl rfl eg, ?_⟩
                clear eg
                have e0 : a.tmps.getD 34 undef = .pointer (some ⟨b2, o2 + i * 2 + 1, none⟩) := hd 15 _ rfl rfl
                have c0 := cell_in (und hR) HL2.out E1.out
                go_simp
                exact ⟨_, rfl, rfl, Below.refl _ _⟩
              · intro a W hR hoff hd
                left
                have eg : a.tmps.getD 27 undef = .bool false := hd 8 _ rfl rfl
                refine ⟨wanted_of (ops := _) (j := 8) (b := false) rfl rfl rfl eg, ?_⟩
                clear eg
                have e0 : a.tmps.getD 30 undef = .int .i64 k := hd 11 _ rfl rfl
                have e1 : a.tmps.getD 35 undef = .int .i64 kd := hd 16 _ rfl rfl
                go_simp
                first | exact ⟨_, rfl, rfl, Below.refl _ _⟩ | exact ⟨_, rfl, congrArg Value.bool (by assumption), Below.refl _ _⟩
              · intro a W hR hoff hd
                left
                refine ⟨rfl, ?_⟩
                have e0 : a.tmps.getD 27 undef = .bool false := hd 8 _ rfl rfl
                have e1 : a.tmps.getD 36 undef = .bool false := hd 17 _ rfl rfl
                go_simp
                exact ⟨_, rfl, rfl, Below.refl _ _⟩
              · intro a W hR hoff hd
                left
                refine ⟨rfl, ?_⟩
                have e0 : a.tmps.getD 37 undef = .bool false := hd 18 _ rfl rfl
                go_simp
                exact ⟨_, rfl, rfl, Below.refl _ _⟩
              · intro a W hR hoff hd
                left
                have eg : a.tmps.getD 38 undef = .bool false := hd 19 _ rfl rfl
                refine ⟨wanted_of (ops := _) (j := 19) (b := false) rfl rfl rfl eg, ?_⟩
                clear eg
                have e0 : a.tmps.getD 6 undef = .pointer (some ⟨g, 0, none⟩) := hoff.slot 6 (no_dst (by kernel_rfl))
                go_simp
                exact ⟨_, rfl, rfl, Below.refl _ _⟩
              · intro a W hR hoff hd
                left
                have eg : a.tmps.getD 38 undef = .bool false := hd 19 _ rfl rfl
                refine ⟨wanted_of (ops := _) (j := 19) (b := false) rfl rfl rfl eg, ?_⟩
                clear eg
                have e0 : a.tmps.getD 39 undef = .pointer (some ⟨g, 1, none⟩) := hd 20 _ rfl rfl
                have c0 := cell_in (und hR) HL1.out D1.out
                have c1 := cell_in (und hR) HL1.out D2.out
                have c2 := cell_in (und hR) HL1.out D3.out
                go_simp
                exact ⟨_, rfl, rfl, Below.refl _ _⟩
              · intro a W hR hoff hd
                left
                have eg : a.tmps.getD 38 undef = .bool false := hd 19 _ rfl rfl
                refine ⟨wanted_of (ops := _) (j := 19) (b := false) rfl rfl rfl eg, ?_⟩
                clear eg
                have e0 : a.tmps.getD 40 undef = .agg #[.int .i64 k, .int .i64 m, .string s] := hd 21 _ rfl rfl
                go_simp
                refine (HM.out W).mono ?_
                rintro e W2 ⟨rfl, hb2⟩
                exact ⟨_, rfl, rfl, belR_of hR (Nat.le_refl _) hb2⟩
              · intro a W hR hoff hd
                left
                have eg : a.tmps.getD 38 undef = .bool false := hd 19 _ rfl rfl
                refine ⟨wanted_of (ops := _) (j := 19) (b := false) rfl rfl rfl eg, ?_⟩
                clear eg
                have e0 : a.tmps.getD 41 undef = .bool false := hd 22 _ rfl rfl
                go_simp
                exact ⟨_, rfl, rfl, Below.refl _ _⟩
              · intro a W hR hoff hd
                left
                refine ⟨rfl, ?_⟩
                have e0 : a.tmps.getD 38 undef = .bool false := hd 19 _ rfl rfl
                have e1 : a.tmps.getD 42 undef = .bool true := hd 23 _ rfl rfl
                go_simp
                exact ⟨_, rfl, rfl, Below.refl _ _⟩
            · intro a W hR hoff hd
              have eL : a.tmps.getD 43 undef = .bool true := hd 24 _ rfl
              have HBW := Lib.hid (HB1.out.trans ((und hR).mono HB1.out.size))
              obtain ⟨ys, hys, ha⟩ := off_form hoff (mask := [false, false, false, false, false, false, false, false, false, false, false, false, false, false, false, false, false, false, false, true, true, true, true, true, true, true, true, true, true, true, true, true, true, true, true, true, true, true, true, true, true, true, true, true, false]) (by kernel_rfl)
              rw [hys] at eL
              subst ha
              clear hd hR
              simp only [fillFrom, Nat.zero_add, Nat.reduceAdd] at *
              rw [eL]
              clear eL hys hoff
              rename_i hK
              refine hK _ _ ?_
              clear hK
              go_wp2_with fail
              go_ret
              exact ⟨by rw [HT.out]; rfl, HBW.out⟩
          | true =>
            rw [hmb] at HM
            have HN : Hid (fitsB l l2 = fitsB (l.drop (i + 1)) (l2.drop (i + 1))) := Lib.hid (by rw [HAT.out]; unfold fitX; simp only [hq, hkk, hmb, Bool.true_and])
            clear HAT hmb
            refine wp_region_steps (fun j v _ => v = fitsF4 g b2 o2 n c2 i nm dn k kd m s j) (belR W1.heap.size) (by kernel_rfl) (by kernel_rfl) (fun _ => Below.refl _ _) (fun _ _ _ h k => belR_trans h k) (fun _ _ _ _ h _ => h) ?_ ?_
            · refine ⟨?_, ?_, ?_, ?_, ?_, ?_, ?_, ?_, ?_, ?_, ?_, ?_, ?_, ?_, ?_, ?_, ?_, ?_, ?_, ?_, ?_, ?_, ?_, ?_, ?_, trivial⟩
              · intro a W hR hoff hd
                left
                refine ⟨rfl, ?_⟩
                have e0 : a.tmps.getD 6 undef = .pointer (some ⟨g, 0, none⟩) := hoff.slot 6 (no_dst (by kernel_rfl))
                go_simp
                exact ⟨_, rfl, rfl, Below.refl _ _⟩
              · intro a W hR hoff hd
                left
                refine ⟨rfl, ?_⟩
                have e0 : a.tmps.getD 19 undef = .pointer (some ⟨g, 0, none⟩) := hd 0 _ rfl rfl
                have c0 := cell_in (und hR) HL1.out D0.out
                go_simp
                exact ⟨_, rfl, rfl, Below.refl _ _⟩
              · intro a W hR hoff hd
                left
                refine ⟨rfl, ?_⟩
                have e0 : a.tmps.getD 1 undef = .slice (some ⟨b2, o2, none⟩) n c2 := hoff.slot 1 (no_dst (by kernel_rfl))
                go_simp
                exact ⟨_, rfl, rfl, Below.refl _ _⟩
              · intro a W hR hoff hd
                left
                refine ⟨rfl, ?_⟩
                have e0 : a.tmps.getD 5 undef = .int .i64 (i : Int) := hoff.slot 5 (no_dst (by kernel_rfl))
                go_simp
                exact ⟨_, rfl, rfl, Below.refl _ _⟩
              · intro a W hR hoff hd
                left
                refine ⟨rfl, ?_⟩
                have e0 : a.tmps.getD 21 undef = .slice (some ⟨b2, o2, none⟩) n c2 := hd 2 _ rfl rfl
                have e1 : a.tmps.getD 22 undef = .int .i64 (i : Int) := hd 3 _ rfl rfl
                go_simp
                exact ⟨_, rfl, rfl, Below.refl _ _⟩
              · intro a W hR hoff hd
                left
                refine ⟨rfl, ?_⟩
                have e0 : a.tmps.getD 23 undef = .pointer (some ⟨b2, o2 + i * 2, none⟩) := hd 4 _ rfl rfl
                go_simp
                exact ⟨_, rfl, rfl, Below.refl _ _⟩
              · intro a W hR hoff hd
                left
                refine ⟨rfl, ?_⟩
                have e0 : a.tmps.getD 24 undef = .pointer (some ⟨b2, o2 + i * 2, none⟩) := hd 5 _ rfl rfl
                have c0 := cell_in (und hR) HL2.out E0.out
                go_simp
                exact ⟨_, rfl, rfl, Below.refl _ _⟩
              · intro a W hR hoff hd
                left
                refine ⟨rfl, ?_⟩
                have e0 : a.tmps.getD 20 undef = .string nm := hd 1 _ rfl rfl
                have e1 : a.tmps.getD 25 undef = .string dn := hd 6 _ rfl rfl
                go_simp
                first | exact ⟨_, rfl, rfl, Below.refl _ _⟩ | exact ⟨_, rfl, congrArg Value.bool (by assumption), Below.refl _ _⟩
              · intro a W hR hoff hd
                left
                refine ⟨rfl, ?_⟩
                have e0 : a.tmps.getD 26 undef = .bool false := hd 7 _ rfl rfl
                go_simp
                exact ⟨_, rfl, rfl, Below.refl _ _⟩
              · intro a W hR hoff hd
                left
                have eg : a.tmps.getD 27 undef = .bool false := hd 8 _ rfl rfl
                refine ⟨wanted_of (ops := _) (j := 8) (b := false) rfl rfl rfl eg, ?_⟩
                clear eg
                have e0 : a.tmps.getD 6 undef = .pointer (some ⟨g, 0, none⟩) := hoff.slot 6 (no_dst (by kernel_rfl))
                go_simp
                exact ⟨_, rfl, rfl, Below.refl _ _⟩
              · intro a W hR hoff hd
                left
                have eg : a.tmps.getD 27 undef = .bool false := hd 8 _ rfl rfl
                refine ⟨wanted_of (ops := _) (j := 8) (b := false) rfl rfl rfl eg, ?_⟩
                clear eg
                have e0 : a.tmps.getD 28 undef = .pointer (some ⟨g, 1, none⟩) := hd 9 _ rfl rfl
                go_simp
                exact ⟨_, rfl, rfl, Below.refl _ _⟩
              · intro a W hR hoff hd
                left
                have eg : a.tmps.getD 27 undef = .bool false := hd 8 _ rfl rfl
                refine ⟨wanted_of (ops := _) (j := 8) (b := false) rfl rfl rfl eg, ?_⟩
                clear eg
                have e0 : a.tmps.getD 29 undef = .pointer (some ⟨g, 1, none⟩) := hd 10 _ rfl rfl
                have c0 := cell_in (und hR) HL1.out D1.out
                go_simp
                exact ⟨_, rfl, rfl, Below.refl _ _⟩
              · intro a W hR hoff hd
                left
                have eg : a.tmps.getD 27 undef = .bool false := hd 8 _ rfl rfl
                refine ⟨wanted_of (ops := _) (j := 8) (b := false) rfl rfl rfl eg, ?_⟩
                clear eg
                have e0 : a.tmps.getD 1 undef = .slice (some ⟨b2, o2, none⟩) n c2 := hoff.slot 1 (no_dst (by kernel_rfl))
                go_simp
                exact ⟨_, rfl, rfl, Below.refl _ _⟩
              · intro a W hR hoff hd
                left
                have eg : a.tmps.getD 27 undef = .bool false := hd 8 _ rfl rfl
                refine ⟨wanted_of (ops := _) (j := 8) (b := false) rfl rfl rfl eg, ?_⟩
                clear eg
                have e0 : a.tmps.getD 5 undef = .int .i64 (i : Int) := hoff.slot 5 (no_dst (by kernel_rfl))
                go_simp
                exact ⟨_, rfl, rfl, Below.refl _ _⟩
              · intro a W hR hoff hd
                left
                have eg : a.tmps.getD 27 undef = .bool false := hd 8 _ rfl rfl
                refine ⟨wanted_of (ops := _) (j := 8) (b := false) rfl rfl rfl eg, ?_⟩
                clear eg
                have e0 : a.tmps.getD 31 undef = .slice (some ⟨b2, o2, none⟩) n c2 := hd 12 _ rfl rfl
                have e1 : a.tmps.getD 32 undef = .int .i64 (i : Int) := hd 13 _ rfl rfl
                go_simp
                exact ⟨_, rfl, rfl, Below.refl _ _⟩
              · intro a W hR hoff hd
                left
                have eg : a.tmps.getD 27 undef = .bool false := hd 8 _ rfl rfl
                refine ⟨wanted_of (ops := _) (j := 8) (b := false) rfl rfl rfl eg, ?_⟩
                clear eg
                have e0 : a.tmps.getD 33 undef = .pointer (some ⟨b2, o2 + i * 2, none⟩) := hd 14 _ rfl rfl
                go_simp
                exact ⟨_, rfl, rfl, Below.refl _ _⟩
              · intro a W hR hoff hd
                left
                have eg : a.tmps.getD 27 undef = .bool false := hd 8 _ rfl rfl
                refine ⟨wanted_of (ops := _) (j := 8) (b := false) rfl rfl rfl eg, ?_⟩
                clear eg
                have e0 : a.tmps.getD 34 undef = .pointer (some ⟨b2, o2 + i * 2 + 1, none⟩) := hd 15 _ rfl rfl
                have c0 := cell_in (und hR) HL2.out E1.out
                go_simp
                exact ⟨_, rfl, rfl, Below.refl _ _⟩
              · intro a W hR hoff hd
                left
                have eg : a.tmps.getD 27 undef = .bool false := hd 8 _ rfl rfl
                refine ⟨wanted_of (ops := _) (j := 8) (b := false) rfl rfl rfl eg, ?_⟩
                clear eg
                have e0 : a.tmps.getD 30 undef = .int .i64 k := hd 11 _ rfl rfl
                have e1 : a.tmps.getD 35 undef = .int .i64 kd := hd 16 _ rfl rfl
                go_simp
                first | exact ⟨_, rfl, rfl, Below.refl _ _⟩ | exact ⟨_, rfl, congrArg Value.bool (by assumption), Below.refl _ _⟩
              · intro a W hR hoff hd
                left
                refine ⟨rfl, ?_⟩
                have e0 : a.tmps.getD 27 undef = .bool false := hd 8 _ rfl rfl
                have e1 : a.tmps.getD 36 undef = .bool false := hd 17 _ rfl rfl
                go_simp
                exact ⟨_, rfl, rfl, Below.refl _ _⟩
              · intro a W hR hoff hd
                left
                refine ⟨rfl, ?_⟩
                have e0 : a.tmps.getD 37 undef = .bool false := hd 18 _ rfl rfl
                go_simp
                exact ⟨_, rfl, rfl, Below.refl _ _⟩
              · intro a W hR hoff hd
                left
                have eg : a.tmps.getD 38 undef = .bool false := hd 19 _ rfl rfl
                refine ⟨wanted_of (ops := _) (j := 19) (b := false) rfl rfl rfl eg, ?_⟩
                clear eg
                have e0 : a.tmps.getD 6 undef = .pointer (some ⟨g, 0, none⟩) := hoff.slot 6 (no_dst (by kernel_rfl))
                go_simp
                exact ⟨_, rfl, rfl, Below.refl _ _⟩
              · intro a W hR hoff hd
                left
                have eg : a.tmps.getD 38 undef = .bool false := hd 19 _ rfl rfl
                refine ⟨wanted_of (ops := _) (j := 19) (b := false) rfl rfl rfl eg, ?_⟩
                clear eg
                have e0 : a.tmps.getD 39 undef = .pointer (some ⟨g, 1, none⟩) := hd 20 _ rfl rfl
                have c0 := cell_in (und hR) HL1.out D1.out
                have c1 := cell_in (und hR) HL1.out D2.out
                have c2 := cell_in (und hR) HL1.out D3.out
                go_simp
                exact ⟨_, rfl, rfl, Below.refl _ _⟩
              · intro a W hR hoff hd
                left
                have eg : a.tmps.getD 38 undef = .bool false := hd 19 _ rfl rfl
                refine ⟨wanted_of (ops := _) (j := 19) (b := false) rfl rfl rfl eg, ?_⟩
                clear eg
                have e0 : a.tmps.getD 40 undef = .agg #[.int .i64 k, .int .i64 m, .string s] := hd 21 _ rfl rfl
                go_simp
                refine (HM.out W).mono ?_
                rintro e W2 ⟨rfl, hb2⟩
                exact ⟨_, rfl, rfl, belR_of hR (Nat.le_refl _) hb2⟩
              · intro a W hR hoff hd
                left
                have eg : a.tmps.getD 38 undef = .bool false := hd 19 _ rfl rfl
                refine ⟨wanted_of (ops := _) (j := 19) (b := false) rfl rfl rfl eg, ?_⟩
                clear eg
                have e0 : a.tmps.getD 41 undef = .bool true := hd 22 _ rfl rfl
                go_simp
                exact ⟨_, rfl, rfl, Below.refl _ _⟩
              · intro a W hR hoff hd
                left
                refine ⟨rfl, ?_⟩
                have e0 : a.tmps.getD 38 undef = .bool false := hd 19 _ rfl rfl
                have e1 : a.tmps.getD 42 undef = .bool false := hd 23 _ rfl rfl
                go_simp
                exact ⟨_, rfl, rfl, Below.refl _ _⟩
            · intro a W hR hoff hd
              have eL : a.tmps.getD 43 undef = .bool false := hd 24 _ rfl
              have HBW := Lib.hid (HB1.out.trans ((und hR).mono HB1.out.size))
              obtain ⟨ys, hys, ha⟩ := off_form hoff (mask := [false, false, false, false, false, false, false, false, false, false, false, false, false, false, false, false, false, false, false, true, true, true, true, true, true, true, true, true, true, true, true, true, true, true, true, true, true, true, true, true, true, true, true, true, false]) (by kernel_rfl)
              rw [hys] at eL
              subst ha
              clear hd hR
              simp only [fillFrom, Nat.zero_add, Nat.reduceAdd] at *
              rw [eL]
              clear eL hys hoff
              rename_i hK
              refine hK _ _ ?_
              clear hK
              go_wp2_with fail
              go_roundg (n - (i + 1))
              case measure => omega
              case rel => exact ⟨i + 1, by go_num, by omega, Nat.le_refl _, HN, HBW⟩
    · have HT : Hid (fitsB l l2 = true) := Lib.hid (by rw [HI.out, List.drop_of_length_le (by omega), List.drop_of_length_le (by omega)]; rfl)
      go_wp2
      go_ret
      exact ⟨by rw [HT.out]; rfl, HB.out⟩
  · have HT : Hid (fitsB l l2 = false) := Lib.hid (fitsB_len (by omega))
    have hz : ((n : Int) == (n2 : Int)) = false := by simpa using (by omega : ¬ (n : Int) = (n2 : Int))
    have hz2 : ((n : Int) != (n2 : Int)) = true := by rw [bne, hz]; rfl
    have hz3 : ¬ (n : Int) = (n2 : Int) := by omega
    clear h h2
    go_enter Tryd.func26, Tryd.ntmps26
    go_wp2
    go_ret
    exact ⟨by rw [HT.out]; rfl, Below.refl _ _⟩
end Go.Proofs.YtnmailhlncchmaaDoor
