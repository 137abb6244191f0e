/-
  What is proved: the walk of ValueVars: it answers true, wherever the model has the room. Conditions: those in each statement.
-/
import Derived.Test.YtnmailhlncchmaaDoorXke
import Derived.Test.YtnmailhlncchmaaDoorXdw
import Derived.Test.YtnmailhlncchmaaDoorXff
import Derived.Test.YtnmailhlncchmaaDoorXsa
namespace Go.Proofs.YtnmailhlncchmaaDoor
open Go.RowKit Go.Lib

def vvF (A A2 : Option Addr) (n c n2 c2 _b6 _b9 _b11 : Nat) (l : List Vr) (l2 : List Dc) (t : ByteArray) (k m : Int) (s : ByteArray) (gk gm : Int) (gs : ByteArray) (gb : Bool) : Nat → Value
  | 0 => .bool true
  | 1 => .bool true
  | 2 => .slice A n c
  | 3 => .bool (varsB l)
  | 4 => .slice A n c
  | 5 => .bool (varsB l)
  | 6 => .bool true
  | 7 => .bool true
  | 8 => .bool true
  | 9 => .agg #[.int .i64 gk, .int .i64 gm, .string gs]
  | 10 => .agg #[.int .i64 gk, .int .i64 gm, .string gs]
  | 11 => .bool true
  | 12 => .bool true
  | 13 => .bool true
  | 14 => .bool gb
  | 15 => .bool gb
  | 16 => .bool true
  | 17 => .bool true
  | 18 => .bool true
  | 19 => .slice A n c
  | 20 => .string t
  | 21 => .agg #[.int .i64 k, .int .i64 m, .string s]
  | 23 => .slice A n c
  | 24 => .string t
  | 25 => .agg #[.int .i64 k, .int .i64 m, .string s]
  | 27 => .bool true
  | 28 => .bool true
  | 29 => .bool true
  | 30 => .slice A n c
  | 31 => .slice A2 n2 c2
  | 32 => .bool (fitsB l l2)
  | 33 => .slice A n c
  | 34 => .slice A2 n2 c2
  | 35 => .bool (fitsB l l2)
  | 36 => .bool true
  | 37 => .bool true
  | 38 => .bool true
  | _ => undef
theorem undG {w W : World} (h : growR w.drew W) : Below w.heap.size w W := (Below.drew (Below.refl w.heap.size w)).trans h
def WV (l : List Vr) (t : ByteArray) (k m : Int) (s : ByteArray) (v : Value) (W : World) : Prop := ∃ r A c, v = .slice A r.length c ∧ WithIs l t ⟨k, m, s⟩ r ∧ HR W A r.length c r
def vvG (A A2 : Option Addr) (n c n2 c2 b6 b9 b11 : Nat) (l : List Vr) (l2 : List Dc) (t : ByteArray) (k m : Int) (s : ByteArray) (gk gm : Int) (gs : ByteArray) (gb : Bool) (j : Nat) (v : Value) (W : World) : Prop :=
  if j = 22 ∨ j = 26 then WV l t k m s v W else v = vvF A A2 n c n2 c2 b6 b9 b11 l l2 t k m s gk gm gs gb j
theorem vvG_mono {A A2 : Option Addr} {n c n2 c2 b6 b9 b11 : Nat} {l : List Vr} {l2 : List Dc} {t : ByteArray} {k m : Int} {s : ByteArray} {gk gm : Int} {gs : ByteArray} {gb : Bool} (j : Nat) (v : Value) (w w' : World) (h : vvG A A2 n c n2 c2 b6 b9 b11 l l2 t k m s gk gm gs gb j v w) (hr : growR w w') : vvG A A2 n c n2 c2 b6 b9 b11 l l2 t k m s gk gm gs gb j v w' := by
  unfold vvG at *
  split at h
  · rename_i hj
    rw [if_pos hj]
    obtain ⟨r, A', c', h1, h2, h3⟩ := h
    exact ⟨r, A', c', h1, h2, h3.below hr⟩
  · rename_i hj
    rw [if_neg hj]
    exact h
set_option maxHeartbeats 16000000 in
set_option maxRecDepth 100000 in
theorem vars_walk (w : World) (A : Option Addr) (n c : Nat) (l : List Vr) (t : ByteArray) (k m : Int) (s : ByteArray) (A2 : Option Addr) (n2 c2 : Nat) (l2 : List Dc) (h : HR w A n c l) (hc0 : A = none → c = 0) (hn : n ≤ 1048576) (h2 : HD w A2 n2 c2 l2) (hG : Glob w) :
    Calls Tryd.prog 6 #[.slice A n c, .string t, .agg #[.int .i64 k, .int .i64 m, .string s], .slice A2 n2 c2] w fun e w' => e = .returned (.bool true) ∧ Below w.heap.size w w' := by
  obtain ⟨W0, hW0⟩ : ∃ W0, W0 = w.alloc (.cells #[.int .i64 k, .int .i64 m, .string s] 23 (0, 0)) := ⟨_, rfl⟩
  have HB0 : Hid (Below w.heap.size w W0) := Lib.hid (by rw [hW0]; exact (Below.refl _ _).alloc (Nat.le_refl _) _)
  have HX0 : Hid (Bx 23 W0 w.heap.size #[.int .i64 k, .int .i64 m, .string s]) := Lib.hid (by rw [hW0]; exact Bx.new w _ _)
  have HW0 := Lib.hid hW0
  have H1 := Lib.hid (fun W hb => get_any W A n c l t (h.below (w' := W) hb) (by omega))
  have H2 := Lib.hid (fun W hb => dGet_any W A n c l t (h.below (w' := W) hb) (by omega))
  have HHw := Lib.hid h
  have HDw := Lib.hid h2
  have HGw := Lib.hid hG
  clear h h2 hG hW0
  unfold PPost at H1 H2
  generalize oV (getV l t) = gv at *
  generalize (getV l t).isSome = gb at *
  obtain ⟨gk, gm, gs⟩ := gv
  simp only at H1 H2
  go_enter Tryd.func6, Tryd.ntmps6
  go_wp2_with (first
    | (go_at_call 19; rw [← HW0.out]; refine (H1.out _ HB0.out).mono ?_; rintro e w1 ⟨rfl, hb1⟩; have HB1 := Lib.hid (HB0.out.trans (hb1.mono HB0.out.size)); have HX1 := Lib.hid (HX0.out.below hb1 HX0.out.lt); clear hb1)
    | (go_at_call 20; refine (H2.out _ (HB1.out.alloc HB1.out.size _)).mono ?_; rintro e w2 ⟨rfl, hb2⟩; have HB2 := Lib.hid ((HB1.out.alloc HB1.out.size (.cells #[.int .i64 gk, .int .i64 gm, .string gs] 23 (0, 0))).trans (hb2.mono (HB1.out.alloc HB1.out.size (.cells #[.int .i64 gk, .int .i64 gm, .string gs] 23 (0, 0))).size)); have HX2 := Lib.hid ((HX1.out.alloc (.cells #[.int .i64 gk, .int .i64 gm, .string gs] 23 (0, 0))).below hb2 (by simp; have := HX1.out.lt; omega)); have HY2 := Lib.hid ((Bx.new w1 23 #[.int .i64 gk, .int .i64 gm, .string gs]).below hb2 (by simp)); clear hb2))
  obtain ⟨W3, hW3⟩ : ∃ W3, W3 = w2.alloc (.cells #[.int .i64 gk, .int .i64 gm, .string gs] 23 (0, 0)) := ⟨_, rfl⟩
  have HB3 : Hid (Below w.heap.size w W3) := Lib.hid (by rw [hW3]; exact HB2.out.alloc HB2.out.size _)
  have hX3 : Bx 23 W3 w.heap.size #[.int .i64 k, .int .i64 m, .string s] := by rw [hW3]; exact HX2.out.alloc _
  have hY3 : Bx 23 W3 w1.heap.size #[.int .i64 gk, .int .i64 gm, .string gs] := by rw [hW3]; exact HY2.out.alloc _
  have hZ3 : Bx 23 W3 w2.heap.size #[.int .i64 gk, .int .i64 gm, .string gs] := by rw [hW3]; exact Bx.new _ _ _
  have C0 := Lib.hid (hX3.c (j := 0) rfl)
  have C1 := Lib.hid (hX3.c (j := 1) rfl)
  have C2 := Lib.hid (hX3.c (j := 2) rfl)
  have N0 := Lib.hid (hY3.c (j := 0) rfl)
  have N1 := Lib.hid (hY3.c (j := 1) rfl)
  have N2 := Lib.hid (hY3.c (j := 2) rfl)
  have M0 := Lib.hid (hZ3.c (j := 0) rfl)
  have M1 := Lib.hid (hZ3.c (j := 1) rfl)
  have M2 := Lib.hid (hZ3.c (j := 2) rfl)
  have L6 := Lib.hid hX3.lt
  have L9 := Lib.hid hY3.lt
  have L11 := Lib.hid hZ3.lt
  have HH : Hid (HR W3 A n c l) := Lib.hid (HHw.out.below HB3.out)
  have HD2 : Hid (HD W3 A2 n2 c2 l2) := Lib.hid (HDw.out.below HB3.out)
  have HG : Hid (Glob W3) := Lib.hid (HGw.out.below HB3.out HGw.out.size)
  rw [← hW3]
  clear hX3 hY3 hZ3 hW3 HX2 HY2 HB2 HX1 HB1 H1 H2
  refine wp_region_steps (vvG A A2 n c n2 c2 w.heap.size w1.heap.size w2.heap.size l l2 t k m s gk gm gs gb) growR (by kernel_rfl) (by kernel_rfl) (fun _ => Below.refl _ _) (fun _ _ _ h k => growR_trans h k) vvG_mono ?_ ?_
  · refine ⟨?_, ?_, ?_, ?_, ?_, ?_, ?_, ?_, ?_, ?_, ?_, ?_, ?_, ?_, ?_, ?_, ?_, ?_, ?_, ?_, ?_, ?_, ?_, ?_, ?_, ?_, ?_, ?_, ?_, ?_, ?_, ?_, ?_, ?_, ?_, ?_, ?_, ?_, ?_, trivial⟩
    · intro a W hR hoff hd
      left
      refine ⟨rfl, ?_⟩
      go_simp
      refine (awake_any W (HG.out.below (undG hR) HG.out.size)).mono ?_
      rintro e W2 ⟨rfl, hb2⟩
      exact ⟨_, rfl, rfl, hb2⟩
    · intro a W hR hoff hd
      left
      refine ⟨rfl, ?_⟩
      have e0 : a.tmps.getD 25 undef = .bool true := hd 0 _ rfl rfl
      go_simp
      exact ⟨_, rfl, rfl, Below.refl _ _⟩
    · intro a W hR hoff hd
      left
      have eg : a.tmps.getD 26 undef = .bool true := hd 1 _ rfl rfl
      refine ⟨wanted_of (ops := _) (j := 1) (b := true) rfl rfl rfl eg, ?_⟩
      clear eg
      have e0 : a.tmps.getD 0 undef = .slice A n c := hoff.slot 0 (no_dst (by kernel_rfl))
      go_simp
      exact ⟨_, rfl, rfl, Below.refl _ _⟩
    · intro a W hR hoff hd
      left
      have eg : a.tmps.getD 26 undef = .bool true := hd 1 _ rfl rfl
      refine ⟨wanted_of (ops := _) (j := 1) (b := true) rfl rfl rfl eg, ?_⟩
      clear eg
      have e0 : a.tmps.getD 27 undef = .slice A n c := hd 2 _ rfl rfl
      go_simp
      refine (vars_any W A n c l (HH.out.below (undG hR))).mono ?_
      rintro e W2 ⟨rfl, hb2⟩
      exact ⟨_, rfl, rfl, hb2⟩
    · intro a W hR hoff hd
      left
      have eg : a.tmps.getD 26 undef = .bool true := hd 1 _ rfl rfl
      refine ⟨wanted_of (ops := _) (j := 1) (b := true) rfl rfl rfl eg, ?_⟩
      clear eg
      have e0 : a.tmps.getD 0 undef = .slice A n c := hoff.slot 0 (no_dst (by kernel_rfl))
      go_simp
      exact ⟨_, rfl, rfl, Below.refl _ _⟩
    · intro a W hR hoff hd
      left
      have eg : a.tmps.getD 26 undef = .bool true := hd 1 _ rfl rfl
      refine ⟨wanted_of (ops := _) (j := 1) (b := true) rfl rfl rfl eg, ?_⟩
      clear eg
      have e0 : a.tmps.getD 29 undef = .slice A n c := hd 4 _ rfl rfl
      go_simp
      refine (dVars_any W A n c l (HH.out.below (undG hR)) (by omega)).mono ?_
      rintro e W2 ⟨rfl, hb2⟩
      exact ⟨_, rfl, rfl, hb2⟩
    · intro a W hR hoff hd
      left
      have eg : a.tmps.getD 26 undef = .bool true := hd 1 _ rfl rfl
      refine ⟨wanted_of (ops := _) (j := 1) (b := true) rfl rfl rfl eg, ?_⟩
      clear eg
      have e0 : a.tmps.getD 28 undef = .bool (varsB l) := hd 3 _ rfl rfl
      have e1 : a.tmps.getD 30 undef = .bool (varsB l) := hd 5 _ rfl rfl
      go_simp
      first | exact ⟨_, rfl, rfl, Below.refl _ _⟩ | exact ⟨_, rfl, congrArg Value.bool (by assumption), Below.refl _ _⟩
    · intro a W hR hoff hd
      left
      refine ⟨rfl, ?_⟩
      have e0 : a.tmps.getD 26 undef = .bool true := hd 1 _ rfl rfl
      have e1 : a.tmps.getD 31 undef = .bool true := hd 6 _ rfl rfl
      go_simp
      exact ⟨_, rfl, rfl, Below.refl _ _⟩
    · intro a W hR hoff hd
      left
      refine ⟨rfl, ?_⟩
      have e0 : a.tmps.getD 32 undef = .bool true := hd 7 _ rfl rfl
      go_simp
      exact ⟨_, rfl, rfl, Below.refl _ _⟩
    · intro a W hR hoff hd
      left
      have eg : a.tmps.getD 33 undef = .bool true := hd 8 _ rfl rfl
      refine ⟨wanted_of (ops := _) (j := 8) (b := true) rfl rfl rfl eg, ?_⟩
      clear eg
      have e0 : a.tmps.getD 9 undef = .pointer (some ⟨w1.heap.size, 0, none⟩) := hoff.slot 9 (no_dst (by kernel_rfl))
      have c0 := cell_in (undG hR) L9.out N0.out
      have c1 := cell_in (undG hR) L9.out N1.out
      have c2 := cell_in (undG hR) L9.out N2.out
      go_simp
      exact ⟨_, rfl, rfl, Below.refl _ _⟩
    · intro a W hR hoff hd
      left
      have eg : a.tmps.getD 33 undef = .bool true := hd 8 _ rfl rfl
      refine ⟨wanted_of (ops := _) (j := 8) (b := true) rfl rfl rfl eg, ?_⟩
      clear eg
      have e0 : a.tmps.getD 11 undef = .pointer (some ⟨w2.heap.size, 0, none⟩) := hoff.slot 11 (no_dst (by kernel_rfl))
      have c0 := cell_in (undG hR) L11.out M0.out
      have c1 := cell_in (undG hR) L11.out M1.out
      have c2 := cell_in (undG hR) L11.out M2.out
      go_simp
      exact ⟨_, rfl, rfl, Below.refl _ _⟩
    · intro a W hR hoff hd
      left
      have eg : a.tmps.getD 33 undef = .bool true := hd 8 _ rfl rfl
      refine ⟨wanted_of (ops := _) (j := 8) (b := true) rfl rfl rfl eg, ?_⟩
      clear eg
      have e0 : a.tmps.getD 34 undef = .agg #[.int .i64 gk, .int .i64 gm, .string gs] := hd 9 _ rfl rfl
      have e1 : a.tmps.getD 35 undef = .agg #[.int .i64 gk, .int .i64 gm, .string gs] := hd 10 _ rfl rfl
      go_simp
      first | exact ⟨_, rfl, rfl, Below.refl _ _⟩ | exact ⟨_, rfl, congrArg Value.bool (by assumption), Below.refl _ _⟩
    · intro a W hR hoff hd
      left
      refine ⟨rfl, ?_⟩
      have e0 : a.tmps.getD 33 undef = .bool true := hd 8 _ rfl rfl
      have e1 : a.tmps.getD 36 undef = .bool true := hd 11 _ rfl rfl
      go_simp
      exact ⟨_, rfl, rfl, Below.refl _ _⟩
    · intro a W hR hoff hd
      left
      refine ⟨rfl, ?_⟩
      have e0 : a.tmps.getD 37 undef = .bool true := hd 12 _ rfl rfl
      go_simp
      exact ⟨_, rfl, rfl, Below.refl _ _⟩
    · intro a W hR hoff hd
      left
      have eg : a.tmps.getD 38 undef = .bool true := hd 13 _ rfl rfl
      refine ⟨wanted_of (ops := _) (j := 13) (b := true) rfl rfl rfl eg, ?_⟩
      clear eg
      have e0 : a.tmps.getD 10 undef = .bool gb := hoff.slot 10 (no_dst (by kernel_rfl))
      go_simp
      exact ⟨_, rfl, rfl, Below.refl _ _⟩
    · intro a W hR hoff hd
      left
      have eg : a.tmps.getD 38 undef = .bool true := hd 13 _ rfl rfl
      refine ⟨wanted_of (ops := _) (j := 13) (b := true) rfl rfl rfl eg, ?_⟩
      clear eg
      have e0 : a.tmps.getD 12 undef = .bool gb := hoff.slot 12 (no_dst (by kernel_rfl))
      go_simp
      exact ⟨_, rfl, rfl, Below.refl _ _⟩
    · intro a W hR hoff hd
      left
      have eg : a.tmps.getD 38 undef = .bool true := hd 13 _ rfl rfl
      refine ⟨wanted_of (ops := _) (j := 13) (b := true) rfl rfl rfl eg, ?_⟩
      clear eg
      have e0 : a.tmps.getD 39 undef = .bool gb := hd 14 _ rfl rfl
      have e1 : a.tmps.getD 40 undef = .bool gb := hd 15 _ rfl rfl
      go_simp
      first | exact ⟨_, rfl, rfl, Below.refl _ _⟩ | exact ⟨_, rfl, congrArg Value.bool (by assumption), Below.refl _ _⟩
    · intro a W hR hoff hd
      left
      refine ⟨rfl, ?_⟩
      have e0 : a.tmps.getD 38 undef = .bool true := hd 13 _ rfl rfl
      have e1 : a.tmps.getD 41 undef = .bool true := hd 16 _ rfl rfl
      go_simp
      exact ⟨_, rfl, rfl, Below.refl _ _⟩
    · intro a W hR hoff hd
      left
      refine ⟨rfl, ?_⟩
      have e0 : a.tmps.getD 42 undef = .bool true := hd 17 _ rfl rfl
      go_simp
      exact ⟨_, rfl, rfl, Below.refl _ _⟩
    · intro a W hR hoff hd
      left
      have eg : a.tmps.getD 43 undef = .bool true := hd 18 _ rfl rfl
      refine ⟨wanted_of (ops := _) (j := 18) (b := true) rfl rfl rfl eg, ?_⟩
      clear eg
      have e0 : a.tmps.getD 0 undef = .slice A n c := hoff.slot 0 (no_dst (by kernel_rfl))
      go_simp
      exact ⟨_, rfl, rfl, Below.refl _ _⟩
    · intro a W hR hoff hd
      left
      have eg : a.tmps.getD 43 undef = .bool true := hd 18 _ rfl rfl
      refine ⟨wanted_of (ops := _) (j := 18) (b := true) rfl rfl rfl eg, ?_⟩
      clear eg
      have e0 : a.tmps.getD 1 undef = .string t := hoff.slot 1 (no_dst (by kernel_rfl))
      go_simp
      exact ⟨_, rfl, rfl, Below.refl _ _⟩
    · intro a W hR hoff hd
      left
      have eg : a.tmps.getD 43 undef = .bool true := hd 18 _ rfl rfl
      refine ⟨wanted_of (ops := _) (j := 18) (b := true) rfl rfl rfl eg, ?_⟩
      clear eg
      have e0 : a.tmps.getD 6 undef = .pointer (some ⟨w.heap.size, 0, none⟩) := hoff.slot 6 (no_dst (by kernel_rfl))
      have c0 := cell_in (undG hR) L6.out C0.out
      have c1 := cell_in (undG hR) L6.out C1.out
      have c2 := cell_in (undG hR) L6.out C2.out
      go_simp
      exact ⟨_, rfl, rfl, Below.refl _ _⟩
    · intro a W hR hoff hd
      left
      have eg : a.tmps.getD 43 undef = .bool true := hd 18 _ rfl rfl
      refine ⟨wanted_of (ops := _) (j := 18) (b := true) rfl rfl rfl eg, ?_⟩
      clear eg
      have e0 : a.tmps.getD 44 undef = .slice A n c := hd 19 _ rfl rfl
      have e1 : a.tmps.getD 45 undef = .string t := hd 20 _ rfl rfl
      have e2 : a.tmps.getD 46 undef = .agg #[.int .i64 k, .int .i64 m, .string s] := hd 21 _ rfl rfl
      go_simp
      refine (with_any W A n c l t k m s (HH.out.below (undG hR)) hc0 hn).mono ?_
      rintro e W2 ⟨r, A', c', hw, rfl, ho, hb2⟩
      exact ⟨_, rfl, ⟨r, A', c', rfl, hw, ho.hr.1⟩, hb2⟩
    · intro a W hR hoff hd
      left
      have eg : a.tmps.getD 43 undef = .bool true := hd 18 _ rfl rfl
      refine ⟨wanted_of (ops := _) (j := 18) (b := true) rfl rfl rfl eg, ?_⟩
      clear eg
      have e0 : a.tmps.getD 0 undef = .slice A n c := hoff.slot 0 (no_dst (by kernel_rfl))
      go_simp
      exact ⟨_, rfl, rfl, Below.refl _ _⟩
    · intro a W hR hoff hd
      left
      have eg : a.tmps.getD 43 undef = .bool true := hd 18 _ rfl rfl
      refine ⟨wanted_of (ops := _) (j := 18) (b := true) rfl rfl rfl eg, ?_⟩
      clear eg
      have e0 : a.tmps.getD 1 undef = .string t := hoff.slot 1 (no_dst (by kernel_rfl))
      go_simp
      exact ⟨_, rfl, rfl, Below.refl _ _⟩
    · intro a W hR hoff hd
      left
      have eg : a.tmps.getD 43 undef = .bool true := hd 18 _ rfl rfl
      refine ⟨wanted_of (ops := _) (j := 18) (b := true) rfl rfl rfl eg, ?_⟩
      clear eg
      have e0 : a.tmps.getD 6 undef = .pointer (some ⟨w.heap.size, 0, none⟩) := hoff.slot 6 (no_dst (by kernel_rfl))
      have c0 := cell_in (undG hR) L6.out C0.out
      have c1 := cell_in (undG hR) L6.out C1.out
      have c2 := cell_in (undG hR) L6.out C2.out
      go_simp
      exact ⟨_, rfl, rfl, Below.refl _ _⟩
    · intro a W hR hoff hd
      left
      have eg : a.tmps.getD 43 undef = .bool true := hd 18 _ rfl rfl
      refine ⟨wanted_of (ops := _) (j := 18) (b := true) rfl rfl rfl eg, ?_⟩
      clear eg
      have e0 : a.tmps.getD 48 undef = .slice A n c := hd 23 _ rfl rfl
      have e1 : a.tmps.getD 49 undef = .string t := hd 24 _ rfl rfl
      have e2 : a.tmps.getD 50 undef = .agg #[.int .i64 k, .int .i64 m, .string s] := hd 25 _ rfl rfl
      go_simp
      refine (dWith_any W A n c l t k m s (HH.out.below (undG hR)) hc0 hn).mono ?_
      rintro e W2 ⟨r, A', c', hw, rfl, ho, hb2⟩
      exact ⟨_, rfl, ⟨r, A', c', rfl, hw, ho.hr.1⟩, hb2⟩
    · intro a W hR hoff hd
      left
      have eg : a.tmps.getD 43 undef = .bool true := hd 18 _ rfl rfl
      refine ⟨wanted_of (ops := _) (j := 18) (b := true) rfl rfl rfl eg, ?_⟩
      clear eg
      obtain ⟨r, A', c', e0, hw, hh⟩ : WV l t k m s (a.tmps.getD 47 undef) W := hd 22 _ rfl rfl
      obtain ⟨r2, A3, c3, e1, hw2, hh2⟩ : WV l t k m s (a.tmps.getD 51 undef) W := hd 26 _ rfl rfl
      obtain rfl := withIs_one hw hw2
      have hrl : r.length ≤ 140737488355328 := by have := withIs_len hw; have := HH.out.1; omega
      have hsm := dSame_any W A' A3 r.length c' r.length c3 r r hh hh2 hrl
      rw [sameB_self] at hsm
      clear hw hw2 hh hh2 hrl
      go_simp
      refine (hsm).mono ?_
      rintro e W2 ⟨rfl, hb2⟩
      exact ⟨_, rfl, rfl, hb2⟩
    · intro a W hR hoff hd
      left
      refine ⟨rfl, ?_⟩
      have e0 : a.tmps.getD 43 undef = .bool true := hd 18 _ rfl rfl
      have e1 : a.tmps.getD 52 undef = .bool true := hd 27 _ rfl rfl
      go_simp
      exact ⟨_, rfl, rfl, Below.refl _ _⟩
    · intro a W hR hoff hd
      left
      refine ⟨rfl, ?_⟩
      have e0 : a.tmps.getD 53 undef = .bool true := hd 28 _ rfl rfl
      go_simp
      exact ⟨_, rfl, rfl, Below.refl _ _⟩
    · intro a W hR hoff hd
      left
      have eg : a.tmps.getD 54 undef = .bool true := hd 29 _ rfl rfl
      refine ⟨wanted_of (ops := _) (j := 29) (b := true) rfl rfl rfl eg, ?_⟩
      clear eg
      have e0 : a.tmps.getD 0 undef = .slice A n c := hoff.slot 0 (no_dst (by kernel_rfl))
      go_simp
      exact ⟨_, rfl, rfl, Below.refl _ _⟩
    · intro a W hR hoff hd
      left
      have eg : a.tmps.getD 54 undef = .bool true := hd 29 _ rfl rfl
      refine ⟨wanted_of (ops := _) (j := 29) (b := true) rfl rfl rfl eg, ?_⟩
      clear eg
      have e0 : a.tmps.getD 3 undef = .slice A2 n2 c2 := hoff.slot 3 (no_dst (by kernel_rfl))
      go_simp
      exact ⟨_, rfl, rfl, Below.refl _ _⟩
    · intro a W hR hoff hd
      left
      have eg : a.tmps.getD 54 undef = .bool true := hd 29 _ rfl rfl
      refine ⟨wanted_of (ops := _) (j := 29) (b := true) rfl rfl rfl eg, ?_⟩
      clear eg
      have e0 : a.tmps.getD 55 undef = .slice A n c := hd 30 _ rfl rfl
      have e1 : a.tmps.getD 56 undef = .slice A2 n2 c2 := hd 31 _ rfl rfl
      go_simp
      refine (fits_any W A A2 n c n2 c2 l l2 (HH.out.below (undG hR)) (HD2.out.below (undG hR)) (by omega)).mono ?_
      rintro e W2 ⟨rfl, hb2⟩
      exact ⟨_, rfl, rfl, hb2⟩
    · intro a W hR hoff hd
      left
      have eg : a.tmps.getD 54 undef = .bool true := hd 29 _ rfl rfl
      refine ⟨wanted_of (ops := _) (j := 29) (b := true) rfl rfl rfl eg, ?_⟩
      clear eg
      have e0 : a.tmps.getD 0 undef = .slice A n c := hoff.slot 0 (no_dst (by kernel_rfl))
      go_simp
      exact ⟨_, rfl, rfl, Below.refl _ _⟩
    · intro a W hR hoff hd
      left
      have eg : a.tmps.getD 54 undef = .bool true := hd 29 _ rfl rfl
      refine ⟨wanted_of (ops := _) (j := 29) (b := true) rfl rfl rfl eg, ?_⟩
      clear eg
      have e0 : a.tmps.getD 3 undef = .slice A2 n2 c2 := hoff.slot 3 (no_dst (by kernel_rfl))
      go_simp
      exact ⟨_, rfl, rfl, Below.refl _ _⟩
    · intro a W hR hoff hd
      left
      have eg : a.tmps.getD 54 undef = .bool true := hd 29 _ rfl rfl
      refine ⟨wanted_of (ops := _) (j := 29) (b := true) rfl rfl rfl eg, ?_⟩
      clear eg
      have e0 : a.tmps.getD 58 undef = .slice A n c := hd 33 _ rfl rfl
      have e1 : a.tmps.getD 59 undef = .slice A2 n2 c2 := hd 34 _ rfl rfl
      go_simp
      refine (dFits_any W A A2 n c n2 c2 l l2 (HH.out.below (undG hR)) (HD2.out.below (undG hR)) (by omega)).mono ?_
      rintro e W2 ⟨rfl, hb2⟩
      exact ⟨_, rfl, rfl, hb2⟩
    · intro a W hR hoff hd
      left
      have eg : a.tmps.getD 54 undef = .bool true := hd 29 _ rfl rfl
      refine ⟨wanted_of (ops := _) (j := 29) (b := true) rfl rfl rfl eg, ?_⟩
      clear eg
      have e0 : a.tmps.getD 57 undef = .bool (fitsB l l2) := hd 32 _ rfl rfl
      have e1 : a.tmps.getD 60 undef = .bool (fitsB l l2) := hd 35 _ rfl rfl
      go_simp
      first | exact ⟨_, rfl, rfl, Below.refl _ _⟩ | exact ⟨_, rfl, congrArg Value.bool (by assumption), Below.refl _ _⟩
    · intro a W hR hoff hd
      left
      refine ⟨rfl, ?_⟩
      have e0 : a.tmps.getD 54 undef = .bool true := hd 29 _ rfl rfl
      have e1 : a.tmps.getD 61 undef = .bool true := hd 36 _ rfl rfl
      go_simp
      exact ⟨_, rfl, rfl, Below.refl _ _⟩
    · intro a W hR hoff hd
      left
      refine ⟨rfl, ?_⟩
      have e0 : a.tmps.getD 62 undef = .bool true := hd 37 _ rfl rfl
      go_simp
      exact ⟨_, rfl, rfl, Below.refl _ _⟩
  · intro a W hR hoff hd
    have e8 : a.tmps.getD 8 undef = .bool true := hd 38 _ rfl
    have HBW := Lib.hid (HB3.out.trans ((undG hR).mono HB3.out.size))
    obtain ⟨ys, hys, ha⟩ := off_form hoff (mask := [false, false, false, false, false, false, false, false, true, false, false, false, false, false, false, false, false, false, false, false, false, false, false, false, false, true, true, true, true, true, true, true, true, true, true, true, true, true, true, true, true, true, true, true, true, true, true, true, true, true, true, true, true, true, true, true, true, true, true, true, true, true, true]) (by kernel_rfl)
    rw [hys] at e8
    subst ha
    clear hd hR
    simp only [fillFrom, Nat.zero_add, Nat.reduceAdd] at *
    rw [e8]
    clear e8 hys hoff
    rename_i hK
    refine hK _ _ ?_
    clear hK
    go_wp2_with fail
    go_ret
    exact ⟨rfl, HBW.out⟩
end Go.Proofs.YtnmailhlncchmaaDoor
