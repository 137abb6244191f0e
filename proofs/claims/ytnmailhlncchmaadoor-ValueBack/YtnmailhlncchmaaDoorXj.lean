/-
  What is proved: ValueBack answers true, whatever its input (its walk). Conditions: those in each statement.
-/
import Derived.Test.YtnmailhlncchmaaDoorXl
namespace Go.Proofs.YtnmailhlncchmaaDoor
open Go.RowKit

theorem pr_par_v {v : Val} (h : In64 v.n) (hm : mayV v = true) : parV (prV v) = some v := by rw [pr_par h, hm]; rfl
theorem pr_par_n {v : Val} (h : In64 v.n) (hm : mayV v = false) : parV (prV v) = none := by rw [pr_par h, hm]; rfl
def backF (P P2 : ByteArray) (b : Nat) (k n : Int) (s : ByteArray) (k2 n2 : Int) (s2 : ByteArray) : Nat → Value
  | 0 => .agg #[.int .i64 k, .int .i64 n, .string s]
  | 1 => .bool false
  | 2 => .bool true
  | 3 => .bool true
  | 4 => undef
  | 5 => undef
  | 6 => undef
  | 7 => .bool true
  | 8 => .bool true
  | 9 => undef
  | 10 => undef
  | 11 => undef
  | 12 => undef
  | 13 => undef
  | 14 => undef
  | 15 => undef
  | 16 => undef
  | 17 => undef
  | 18 => .bool true
  | 19 => .bool true
  | _ => undef
set_option maxHeartbeats 16000000 in
set_option maxRecDepth 100000 in
theorem back_F (w : World) (k n : Int) (s : ByteArray) (k2 n2 : Int) (s2 : ByteArray) (hn : In64 n) (hn2 : In64 n2) (hG : Glob w) (hm : mayV ⟨k, n, s⟩ = false)  :
    Calls Tryd.prog 5 #[.agg #[.int .i64 k, .int .i64 n, .string s], .agg #[.int .i64 k2, .int .i64 n2, .string s2]] w fun e w' => e = .returned (.bool true) ∧ Below w.heap.size w w' := by
  have HMA := Lib.hid (fun W => may_any W k n s)
  have HMW := Lib.hid (fun W => may_any W k2 n2 s2)
  have HPR := Lib.hid (fun W hW => print_any W k n s hn hW)
  have HPW := Lib.hid (fun W hW => print_any W k2 n2 s2 hn2 hW)
  have HPA : Hid (∀ W, Glob W → Calls Tryd.prog 17 #[.string ⟨(prV ⟨k, n, s⟩).toArray⟩] W fun e w' => e = .returned (.tuple #[.agg #[.int .i64 0, .int .i64 0, .string ⟨#[]⟩], .bool false]) ∧ Below W.heap.size W w') := Lib.hid (fun W hW => by
    have := parse_any W ⟨(prV ⟨k, n, s⟩).toArray⟩ hW
    rw [show (⟨(prV ⟨k, n, s⟩).toArray⟩ : ByteArray).data.toList = prV ⟨k, n, s⟩ from rfl, pr_par_n hn hm] at this
    exact this)
  rw [hm] at HMA
  generalize (⟨(prV ⟨k, n, s⟩).toArray⟩ : ByteArray) = P at *
  generalize (⟨(prV ⟨k2, n2, s2⟩).toArray⟩ : ByteArray) = P2 at *
  have HB0 : Hid (Below w.heap.size w ((w.alloc (.cells #[.int .i64 k, .int .i64 n, .string s] 23 (0, 0))).alloc (.cells #[.int .i64 k2, .int .i64 n2, .string s2] 23 (0, 0)))) := Lib.hid (((Below.refl _ _).alloc (Nat.le_refl _) _).alloc (by simp) _)
  have HG0 : Hid (Glob ((w.alloc (.cells #[.int .i64 k, .int .i64 n, .string s] 23 (0, 0))).alloc (.cells #[.int .i64 k2, .int .i64 n2, .string s2] 23 (0, 0)))) := Lib.hid (hG.below HB0.out hG.size)
  have HX0 : Hid (Bx 23 ((w.alloc (.cells #[.int .i64 k, .int .i64 n, .string s] 23 (0, 0))).alloc (.cells #[.int .i64 k2, .int .i64 n2, .string s2] 23 (0, 0))) w.heap.size #[.int .i64 k, .int .i64 n, .string s]) := Lib.hid ((Bx.new w _ _).alloc _)
  have HY0 : Hid (Bx 23 ((w.alloc (.cells #[.int .i64 k, .int .i64 n, .string s] 23 (0, 0))).alloc (.cells #[.int .i64 k2, .int .i64 n2, .string s2] 23 (0, 0))) (w.heap.size + 1) #[.int .i64 k2, .int .i64 n2, .string s2]) := Lib.hid (by have := Bx.new (w.alloc (.cells #[.int .i64 k, .int .i64 n, .string s] 23 (0, 0))) 23 #[.int .i64 k2, .int .i64 n2, .string s2]; simpa using this)
  have HG := Lib.hid hG
  clear hG hn hn2 hm
  go_enter Tryd.func5, Tryd.ntmps5
  go_wp2_with (first
    | (go_at_call 9; refine (awake_any _ (HG.out.below (HB2.out.alloc HB2.out.size (.cells #[.int .i64 0, .int .i64 0, .string ⟨#[]⟩] 23 (0, 0))) HG.out.size)).mono ?_; rintro e w3 ⟨rfl, hb3⟩; have HX3 := Lib.hid ((HX2.out.alloc (.cells #[.int .i64 0, .int .i64 0, .string ⟨#[]⟩] 23 (0, 0))).below hb3 (by have := HX2.out.lt; simp; omega)); have HY3 := Lib.hid ((HY2.out.alloc (.cells #[.int .i64 0, .int .i64 0, .string ⟨#[]⟩] 23 (0, 0))).below hb3 (by have := HY2.out.lt; simp; omega)); have HZ3 := Lib.hid ((Bx.new w2 23 #[.int .i64 0, .int .i64 0, .string ⟨#[]⟩]).below hb3 (by simp)); have c0 := HX3.out.c (j := 0) rfl; have c1 := HX3.out.c (j := 1) rfl; have c2 := HX3.out.c (j := 2) rfl; have HB3 := Lib.hid ((HB2.out.alloc HB2.out.size (.cells #[.int .i64 0, .int .i64 0, .string ⟨#[]⟩] 23 (0, 0))).trans (hb3.mono (by have := HB2.out.size; simp; omega))); clear hb3)
    | (go_at_call 10; refine (HMA.out _).mono ?_; rintro e w4 ⟨rfl, hb4⟩; have HX4 := Lib.hid (HX3.out.below hb4 HX3.out.lt); have HY4 := Lib.hid (HY3.out.below hb4 HY3.out.lt); have hz4 := HZ3.out.below hb4 HZ3.out.lt; have d0 := HX4.out.c (j := 0) rfl; have d1 := HX4.out.c (j := 1) rfl; have d2 := HX4.out.c (j := 2) rfl; have g0 := hz4.c (j := 0) rfl; have g1 := hz4.c (j := 1) rfl; have g2 := hz4.c (j := 2) rfl; have HB4 := Lib.hid (HB3.out.trans (hb4.mono HB3.out.size)); clear hb4 hz4)
    | (go_at_call 17; refine (HPA.out _ (HG.out.below HB1.out HG.out.size)).mono ?_; rintro e w2 ⟨rfl, hb2⟩; have HX2 := Lib.hid (HX1.out.below hb2 HX1.out.lt); have HY2 := Lib.hid (HY1.out.below hb2 HY1.out.lt); have HB2 := Lib.hid (HB1.out.trans (hb2.mono HB1.out.size)); clear hb2)
    | (go_at_call 12; refine (HPR.out _ HG0.out).mono ?_; rintro e w1 ⟨rfl, hb1⟩; have HX1 := Lib.hid (HX0.out.below hb1 HX0.out.lt); have HY1 := Lib.hid (HY0.out.below hb1 HY0.out.lt); have HB1 := Lib.hid (HB0.out.trans (hb1.mono HB0.out.size)); clear hb1))
  have HVb := HX4
  have HWb := HY4
  have HGb := Lib.hid (HG.out.below HB4.out HG.out.size)
  have HSZ0 := Lib.hid HB4.out.size
  clear HX4 HY4 HB0 HG0 HX0 HY0 HX1 HY1
  try clear d0 d1 d2 g0 g1 g2
  try clear c0 c1 c2
  generalize hbz : w.heap.size = b at *
  have HBZ := Lib.hid hbz
  clear hbz
  refine wp_region_steps (fun i v _ => v = backF P P2 b k n s k2 n2 s2 i) (belR w4.heap.size) (by kernel_rfl) (by kernel_rfl) (fun _ => Below.refl _ _) (fun _ _ _ h k => belR_trans h k) (fun _ _ _ _ h _ => h) ?_ ?_
  · refine ⟨?_, ?_, ?_, ?_, ?_, ?_, ?_, ?_, ?_, ?_, ?_, ?_, ?_, ?_, ?_, ?_, ?_, ?_, ?_, ?_, trivial⟩
    · intro a W hR hoff hd
      left
      refine ⟨rfl, ?_⟩
      have e0 : a.tmps.getD 2 undef = .pointer (some ⟨b, 0, none⟩) := hoff.slot 2 (no_dst (by kernel_rfl))
      have c0 := (HVb.out.below (und hR) HVb.out.lt).c (j := 0) rfl
      have c1 := (HVb.out.below (und hR) HVb.out.lt).c (j := 1) rfl
      have c2 := (HVb.out.below (und hR) HVb.out.lt).c (j := 2) rfl
      go_simp
      exact ⟨_, rfl, rfl, Below.refl _ _⟩
    · intro a W hR hoff hd
      left
      refine ⟨rfl, ?_⟩
      have e0 : a.tmps.getD 29 undef = .agg #[.int .i64 k, .int .i64 n, .string s] := hd 0 _ rfl rfl
      go_simp
      refine (HMA.out W).mono ?_
      rintro e W2 ⟨rfl, hb2⟩
      exact ⟨_, rfl, rfl, belR_of hR (Nat.le_refl _) hb2⟩
    · intro a W hR hoff hd
      left
      refine ⟨rfl, ?_⟩
      have e0 : a.tmps.getD 30 undef = .bool false := hd 1 _ rfl rfl
      go_simp
      exact ⟨_, rfl, rfl, Below.refl _ _⟩
    · intro a W hR hoff hd
      left
      refine ⟨rfl, ?_⟩
      have e0 : a.tmps.getD 31 undef = .bool true := hd 2 _ rfl rfl
      go_simp
      exact ⟨_, rfl, rfl, Below.refl _ _⟩
    · intro a W hR hoff hd
      right
      have eg : a.tmps.getD 32 undef = .bool true := hd 3 _ rfl rfl
      exact ⟨unwanted_of (ops := _) (j := 3) (b := false) rfl rfl rfl (b2 := true) (by decide) eg, rfl⟩
    · intro a W hR hoff hd
      right
      have eg : a.tmps.getD 32 undef = .bool true := hd 3 _ rfl rfl
      exact ⟨unwanted_of (ops := _) (j := 3) (b := false) rfl rfl rfl (b2 := true) (by decide) eg, rfl⟩
    · intro a W hR hoff hd
      right
      have eg : a.tmps.getD 32 undef = .bool true := hd 3 _ rfl rfl
      exact ⟨unwanted_of (ops := _) (j := 3) (b := false) rfl rfl rfl (b2 := true) (by decide) eg, rfl⟩
    · intro a W hR hoff hd
      left
      refine ⟨rfl, ?_⟩
      have e0 : a.tmps.getD 32 undef = .bool true := hd 3 _ rfl rfl
      have e1 : a.tmps.getD 35 undef = undef := hd 6 _ rfl rfl
      go_simp
      exact ⟨_, rfl, rfl, Below.refl _ _⟩
    · intro a W hR hoff hd
      left
      refine ⟨rfl, ?_⟩
      have e0 : a.tmps.getD 36 undef = .bool true := hd 7 _ rfl rfl
      go_simp
      exact ⟨_, rfl, rfl, Below.refl _ _⟩
    · intro a W hR hoff hd
      right
      have eg : a.tmps.getD 37 undef = .bool true := hd 8 _ rfl rfl
      exact ⟨unwanted_of (ops := _) (j := 8) (b := false) rfl rfl rfl (b2 := true) (by decide) eg, rfl⟩
    · intro a W hR hoff hd
      right
      have eg : a.tmps.getD 37 undef = .bool true := hd 8 _ rfl rfl
      exact ⟨unwanted_of (ops := _) (j := 8) (b := false) rfl rfl rfl (b2 := true) (by decide) eg, rfl⟩
    · intro a W hR hoff hd
      right
      have eg : a.tmps.getD 37 undef = .bool true := hd 8 _ rfl rfl
      exact ⟨unwanted_of (ops := _) (j := 8) (b := false) rfl rfl rfl (b2 := true) (by decide) eg, rfl⟩
    · intro a W hR hoff hd
      right
      have eg : a.tmps.getD 37 undef = .bool true := hd 8 _ rfl rfl
      exact ⟨unwanted_of (ops := _) (j := 8) (b := false) rfl rfl rfl (b2 := true) (by decide) eg, rfl⟩
    · intro a W hR hoff hd
      right
      have eg : a.tmps.getD 37 undef = .bool true := hd 8 _ rfl rfl
      exact ⟨unwanted_of (ops := _) (j := 8) (b := false) rfl rfl rfl (b2 := true) (by decide) eg, rfl⟩
    · intro a W hR hoff hd
      right
      have eg : a.tmps.getD 37 undef = .bool true := hd 8 _ rfl rfl
      exact ⟨unwanted_of (ops := _) (j := 8) (b := false) rfl rfl rfl (b2 := true) (by decide) eg, rfl⟩
    · intro a W hR hoff hd
      right
      have eg : a.tmps.getD 37 undef = .bool true := hd 8 _ rfl rfl
      exact ⟨unwanted_of (ops := _) (j := 8) (b := false) rfl rfl rfl (b2 := true) (by decide) eg, rfl⟩
    · intro a W hR hoff hd
      right
      have eg : a.tmps.getD 37 undef = .bool true := hd 8 _ rfl rfl
      exact ⟨unwanted_of (ops := _) (j := 8) (b := false) rfl rfl rfl (b2 := true) (by decide) eg, rfl⟩
    · intro a W hR hoff hd
      right
      have eg : a.tmps.getD 37 undef = .bool true := hd 8 _ rfl rfl
      exact ⟨unwanted_of (ops := _) (j := 8) (b := false) rfl rfl rfl (b2 := true) (by decide) eg, rfl⟩
    · intro a W hR hoff hd
      left
      refine ⟨rfl, ?_⟩
      have e0 : a.tmps.getD 37 undef = .bool true := hd 8 _ rfl rfl
      have e1 : a.tmps.getD 46 undef = undef := hd 17 _ rfl rfl
      go_simp
      exact ⟨_, rfl, rfl, Below.refl _ _⟩
    · intro a W hR hoff hd
      left
      refine ⟨rfl, ?_⟩
      have e0 : a.tmps.getD 47 undef = .bool true := hd 18 _ rfl rfl
      go_simp
      exact ⟨_, rfl, rfl, Below.refl _ _⟩
  · intro a W hR hoff hd
    have e4 : a.tmps.getD 4 undef = .bool true := hd 19 _ rfl
    rename_i hK
    refine hK _ _ ?_
    go_wp2
    refine bodyPost_ret (results_tmp rfl _ _ _) hoff.defers ⟨by rw [e4], ?_⟩
    rw [HBZ.out]
    exact HB4.out.trans (Below.mono (und hR) HSZ0.out)
def backN (P P2 : ByteArray) (b : Nat) (k n : Int) (s : ByteArray) (k2 n2 : Int) (s2 : ByteArray) : Nat → Value
  | 0 => .agg #[.int .i64 k, .int .i64 n, .string s]
  | 1 => .bool true
  | 2 => .bool false
  | 3 => .bool false
  | 4 => .agg #[.int .i64 k2, .int .i64 n2, .string s2]
  | 5 => .bool false
  | 6 => .bool true
  | 7 => .bool true
  | 8 => .bool true
  | 9 => undef
  | 10 => undef
  | 11 => undef
  | 12 => undef
  | 13 => undef
  | 14 => undef
  | 15 => undef
  | 16 => undef
  | 17 => undef
  | 18 => .bool true
  | 19 => .bool true
  | _ => undef
set_option maxHeartbeats 16000000 in
set_option maxRecDepth 100000 in
theorem back_N (w : World) (k n : Int) (s : ByteArray) (k2 n2 : Int) (s2 : ByteArray) (hn : In64 n) (hn2 : In64 n2) (hG : Glob w) (hm : mayV ⟨k, n, s⟩ = true) (hmw : mayV ⟨k2, n2, s2⟩ = false) :
    Calls Tryd.prog 5 #[.agg #[.int .i64 k, .int .i64 n, .string s], .agg #[.int .i64 k2, .int .i64 n2, .string s2]] w fun e w' => e = .returned (.bool true) ∧ Below w.heap.size w w' := by
  have HMA := Lib.hid (fun W => may_any W k n s)
  have HMW := Lib.hid (fun W => may_any W k2 n2 s2)
  have HPR := Lib.hid (fun W hW => print_any W k n s hn hW)
  have HPW := Lib.hid (fun W hW => print_any W k2 n2 s2 hn2 hW)
  have HPA : Hid (∀ W, Glob W → Calls Tryd.prog 17 #[.string ⟨(prV ⟨k, n, s⟩).toArray⟩] W fun e w' => e = .returned (.tuple #[.agg #[.int .i64 k, .int .i64 n, .string s], .bool true]) ∧ Below W.heap.size W w') := Lib.hid (fun W hW => by
    have := parse_any W ⟨(prV ⟨k, n, s⟩).toArray⟩ hW
    rw [show (⟨(prV ⟨k, n, s⟩).toArray⟩ : ByteArray).data.toList = prV ⟨k, n, s⟩ from rfl, pr_par_v hn hm] at this
    exact this)
  rw [hm] at HMA
  rw [hmw] at HMW
  clear hmw
  generalize (⟨(prV ⟨k, n, s⟩).toArray⟩ : ByteArray) = P at *
  generalize (⟨(prV ⟨k2, n2, s2⟩).toArray⟩ : ByteArray) = P2 at *
  have HB0 : Hid (Below w.heap.size w ((w.alloc (.cells #[.int .i64 k, .int .i64 n, .string s] 23 (0, 0))).alloc (.cells #[.int .i64 k2, .int .i64 n2, .string s2] 23 (0, 0)))) := Lib.hid (((Below.refl _ _).alloc (Nat.le_refl _) _).alloc (by simp) _)
  have HG0 : Hid (Glob ((w.alloc (.cells #[.int .i64 k, .int .i64 n, .string s] 23 (0, 0))).alloc (.cells #[.int .i64 k2, .int .i64 n2, .string s2] 23 (0, 0)))) := Lib.hid (hG.below HB0.out hG.size)
  have HX0 : Hid (Bx 23 ((w.alloc (.cells #[.int .i64 k, .int .i64 n, .string s] 23 (0, 0))).alloc (.cells #[.int .i64 k2, .int .i64 n2, .string s2] 23 (0, 0))) w.heap.size #[.int .i64 k, .int .i64 n, .string s]) := Lib.hid ((Bx.new w _ _).alloc _)
  have HY0 : Hid (Bx 23 ((w.alloc (.cells #[.int .i64 k, .int .i64 n, .string s] 23 (0, 0))).alloc (.cells #[.int .i64 k2, .int .i64 n2, .string s2] 23 (0, 0))) (w.heap.size + 1) #[.int .i64 k2, .int .i64 n2, .string s2]) := Lib.hid (by have := Bx.new (w.alloc (.cells #[.int .i64 k, .int .i64 n, .string s] 23 (0, 0))) 23 #[.int .i64 k2, .int .i64 n2, .string s2]; simpa using this)
  have HG := Lib.hid hG
  clear hG hn hn2 hm
  go_enter Tryd.func5, Tryd.ntmps5
  go_wp2_with (first
    | (go_at_call 9; refine (awake_any _ (HG.out.below (HB2.out.alloc HB2.out.size (.cells #[.int .i64 k, .int .i64 n, .string s] 23 (0, 0))) HG.out.size)).mono ?_; rintro e w3 ⟨rfl, hb3⟩; have HX3 := Lib.hid ((HX2.out.alloc (.cells #[.int .i64 k, .int .i64 n, .string s] 23 (0, 0))).below hb3 (by have := HX2.out.lt; simp; omega)); have HY3 := Lib.hid ((HY2.out.alloc (.cells #[.int .i64 k, .int .i64 n, .string s] 23 (0, 0))).below hb3 (by have := HY2.out.lt; simp; omega)); have HZ3 := Lib.hid ((Bx.new w2 23 #[.int .i64 k, .int .i64 n, .string s]).below hb3 (by simp)); have c0 := HX3.out.c (j := 0) rfl; have c1 := HX3.out.c (j := 1) rfl; have c2 := HX3.out.c (j := 2) rfl; have HB3 := Lib.hid ((HB2.out.alloc HB2.out.size (.cells #[.int .i64 k, .int .i64 n, .string s] 23 (0, 0))).trans (hb3.mono (by have := HB2.out.size; simp; omega))); clear hb3)
    | (go_at_call 10; refine (HMA.out _).mono ?_; rintro e w4 ⟨rfl, hb4⟩; have HX4 := Lib.hid (HX3.out.below hb4 HX3.out.lt); have HY4 := Lib.hid (HY3.out.below hb4 HY3.out.lt); have hz4 := HZ3.out.below hb4 HZ3.out.lt; have d0 := HX4.out.c (j := 0) rfl; have d1 := HX4.out.c (j := 1) rfl; have d2 := HX4.out.c (j := 2) rfl; have g0 := hz4.c (j := 0) rfl; have g1 := hz4.c (j := 1) rfl; have g2 := hz4.c (j := 2) rfl; have HB4 := Lib.hid (HB3.out.trans (hb4.mono HB3.out.size)); clear hb4 hz4)
    | (go_at_call 17; refine (HPA.out _ (HG.out.below HB1.out HG.out.size)).mono ?_; rintro e w2 ⟨rfl, hb2⟩; have HX2 := Lib.hid (HX1.out.below hb2 HX1.out.lt); have HY2 := Lib.hid (HY1.out.below hb2 HY1.out.lt); have HB2 := Lib.hid (HB1.out.trans (hb2.mono HB1.out.size)); clear hb2)
    | (go_at_call 12; refine (HPR.out _ HG0.out).mono ?_; rintro e w1 ⟨rfl, hb1⟩; have HX1 := Lib.hid (HX0.out.below hb1 HX0.out.lt); have HY1 := Lib.hid (HY0.out.below hb1 HY0.out.lt); have HB1 := Lib.hid (HB0.out.trans (hb1.mono HB0.out.size)); clear hb1))
  have HVb := HX4
  have HWb := HY4
  have HGb := Lib.hid (HG.out.below HB4.out HG.out.size)
  have HSZ0 := Lib.hid HB4.out.size
  clear HX4 HY4 HB0 HG0 HX0 HY0 HX1 HY1
  try clear d0 d1 d2 g0 g1 g2
  try clear c0 c1 c2
  generalize hbz : w.heap.size = b at *
  have HBZ := Lib.hid hbz
  clear hbz
  refine wp_region_steps (fun i v _ => v = backN P P2 b k n s k2 n2 s2 i) (belR w4.heap.size) (by kernel_rfl) (by kernel_rfl) (fun _ => Below.refl _ _) (fun _ _ _ h k => belR_trans h k) (fun _ _ _ _ h _ => h) ?_ ?_
  · refine ⟨?_, ?_, ?_, ?_, ?_, ?_, ?_, ?_, ?_, ?_, ?_, ?_, ?_, ?_, ?_, ?_, ?_, ?_, ?_, ?_, trivial⟩
    · intro a W hR hoff hd
      left
      refine ⟨rfl, ?_⟩
      have e0 : a.tmps.getD 2 undef = .pointer (some ⟨b, 0, none⟩) := hoff.slot 2 (no_dst (by kernel_rfl))
      have c0 := (HVb.out.below (und hR) HVb.out.lt).c (j := 0) rfl
      have c1 := (HVb.out.below (und hR) HVb.out.lt).c (j := 1) rfl
      have c2 := (HVb.out.below (und hR) HVb.out.lt).c (j := 2) rfl
      go_simp
      exact ⟨_, rfl, rfl, Below.refl _ _⟩
    · intro a W hR hoff hd
      left
      refine ⟨rfl, ?_⟩
      have e0 : a.tmps.getD 29 undef = .agg #[.int .i64 k, .int .i64 n, .string s] := hd 0 _ rfl rfl
      go_simp
      refine (HMA.out W).mono ?_
      rintro e W2 ⟨rfl, hb2⟩
      exact ⟨_, rfl, rfl, belR_of hR (Nat.le_refl _) hb2⟩
    · intro a W hR hoff hd
      left
      refine ⟨rfl, ?_⟩
      have e0 : a.tmps.getD 30 undef = .bool true := hd 1 _ rfl rfl
      go_simp
      exact ⟨_, rfl, rfl, Below.refl _ _⟩
    · intro a W hR hoff hd
      left
      refine ⟨rfl, ?_⟩
      have e0 : a.tmps.getD 31 undef = .bool false := hd 2 _ rfl rfl
      go_simp
      exact ⟨_, rfl, rfl, Below.refl _ _⟩
    · intro a W hR hoff hd
      left
      have eg : a.tmps.getD 32 undef = .bool false := hd 3 _ rfl rfl
      refine ⟨wanted_of (ops := _) (j := 3) (b := false) rfl rfl rfl eg, ?_⟩
      clear eg
      have e0 : a.tmps.getD 3 undef = .pointer (some ⟨b + 1, 0, none⟩) := hoff.slot 3 (no_dst (by kernel_rfl))
      have c0 := (HWb.out.below (und hR) HWb.out.lt).c (j := 0) rfl
      have c1 := (HWb.out.below (und hR) HWb.out.lt).c (j := 1) rfl
      have c2 := (HWb.out.below (und hR) HWb.out.lt).c (j := 2) rfl
      go_simp
      exact ⟨_, rfl, rfl, Below.refl _ _⟩
    · intro a W hR hoff hd
      left
      have eg : a.tmps.getD 32 undef = .bool false := hd 3 _ rfl rfl
      refine ⟨wanted_of (ops := _) (j := 3) (b := false) rfl rfl rfl eg, ?_⟩
      clear eg
      have e0 : a.tmps.getD 33 undef = .agg #[.int .i64 k2, .int .i64 n2, .string s2] := hd 4 _ rfl rfl
      go_simp
      refine (HMW.out W).mono ?_
      rintro e W2 ⟨rfl, hb2⟩
      exact ⟨_, rfl, rfl, belR_of hR (Nat.le_refl _) hb2⟩
    · intro a W hR hoff hd
      left
      have eg : a.tmps.getD 32 undef = .bool false := hd 3 _ rfl rfl
      refine ⟨wanted_of (ops := _) (j := 3) (b := false) rfl rfl rfl eg, ?_⟩
      clear eg
      have e0 : a.tmps.getD 34 undef = .bool false := hd 5 _ rfl rfl
      go_simp
      exact ⟨_, rfl, rfl, Below.refl _ _⟩
    · intro a W hR hoff hd
      left
      refine ⟨rfl, ?_⟩
      have e0 : a.tmps.getD 32 undef = .bool false := hd 3 _ rfl rfl
      have e1 : a.tmps.getD 35 undef = .bool true := hd 6 _ rfl rfl
      go_simp
      exact ⟨_, rfl, rfl, Below.refl _ _⟩
    · intro a W hR hoff hd
      left
      refine ⟨rfl, ?_⟩
      have e0 : a.tmps.getD 36 undef = .bool true := hd 7 _ rfl rfl
      go_simp
      exact ⟨_, rfl, rfl, Below.refl _ _⟩
    · intro a W hR hoff hd
      right
      have eg : a.tmps.getD 37 undef = .bool true := hd 8 _ rfl rfl
      exact ⟨unwanted_of (ops := _) (j := 8) (b := false) rfl rfl rfl (b2 := true) (by decide) eg, rfl⟩
    · intro a W hR hoff hd
      right
      have eg : a.tmps.getD 37 undef = .bool true := hd 8 _ rfl rfl
      exact ⟨unwanted_of (ops := _) (j := 8) (b := false) rfl rfl rfl (b2 := true) (by decide) eg, rfl⟩
    · intro a W hR hoff hd
      right
      have eg : a.tmps.getD 37 undef = .bool true := hd 8 _ rfl rfl
      exact ⟨unwanted_of (ops := _) (j := 8) (b := false) rfl rfl rfl (b2 := true) (by decide) eg, rfl⟩
    · intro a W hR hoff hd
      right
      have eg : a.tmps.getD 37 undef = .bool true := hd 8 _ rfl rfl
      exact ⟨unwanted_of (ops := _) (j := 8) (b := false) rfl rfl rfl (b2 := true) (by decide) eg, rfl⟩
    · intro a W hR hoff hd
      right
      have eg : a.tmps.getD 37 undef = .bool true := hd 8 _ rfl rfl
      exact ⟨unwanted_of (ops := _) (j := 8) (b := false) rfl rfl rfl (b2 := true) (by decide) eg, rfl⟩
    · intro a W hR hoff hd
      right
      have eg : a.tmps.getD 37 undef = .bool true := hd 8 _ rfl rfl
      exact ⟨unwanted_of (ops := _) (j := 8) (b := false) rfl rfl rfl (b2 := true) (by decide) eg, rfl⟩
    · intro a W hR hoff hd
      right
      have eg : a.tmps.getD 37 undef = .bool true := hd 8 _ rfl rfl
      exact ⟨unwanted_of (ops := _) (j := 8) (b := false) rfl rfl rfl (b2 := true) (by decide) eg, rfl⟩
    · intro a W hR hoff hd
      right
      have eg : a.tmps.getD 37 undef = .bool true := hd 8 _ rfl rfl
      exact ⟨unwanted_of (ops := _) (j := 8) (b := false) rfl rfl rfl (b2 := true) (by decide) eg, rfl⟩
    · intro a W hR hoff hd
      right
      have eg : a.tmps.getD 37 undef = .bool true := hd 8 _ rfl rfl
      exact ⟨unwanted_of (ops := _) (j := 8) (b := false) rfl rfl rfl (b2 := true) (by decide) eg, rfl⟩
    · intro a W hR hoff hd
      left
      refine ⟨rfl, ?_⟩
      have e0 : a.tmps.getD 37 undef = .bool true := hd 8 _ rfl rfl
      have e1 : a.tmps.getD 46 undef = undef := hd 17 _ rfl rfl
      go_simp
      exact ⟨_, rfl, rfl, Below.refl _ _⟩
    · intro a W hR hoff hd
      left
      refine ⟨rfl, ?_⟩
      have e0 : a.tmps.getD 47 undef = .bool true := hd 18 _ rfl rfl
      go_simp
      exact ⟨_, rfl, rfl, Below.refl _ _⟩
  · intro a W hR hoff hd
    have e4 : a.tmps.getD 4 undef = .bool true := hd 19 _ rfl
    rename_i hK
    refine hK _ _ ?_
    go_wp2
    refine bodyPost_ret (results_tmp rfl _ _ _) hoff.defers ⟨by rw [e4], ?_⟩
    rw [HBZ.out]
    exact HB4.out.trans (Below.mono (und hR) HSZ0.out)
def backS (P P2 : ByteArray) (b : Nat) (k n : Int) (s : ByteArray) (k2 n2 : Int) (s2 : ByteArray) : Nat → Value
  | 0 => .agg #[.int .i64 k, .int .i64 n, .string s]
  | 1 => .bool true
  | 2 => .bool false
  | 3 => .bool false
  | 4 => .agg #[.int .i64 k, .int .i64 n, .string s]
  | 5 => .bool true
  | 6 => .bool false
  | 7 => .bool false
  | 8 => .bool false
  | 9 => .agg #[.int .i64 k, .int .i64 n, .string s]
  | 10 => .string P
  | 11 => .agg #[.int .i64 k, .int .i64 n, .string s]
  | 12 => .string P
  | 13 => .bool true
  | 14 => .agg #[.int .i64 k, .int .i64 n, .string s]
  | 15 => .agg #[.int .i64 k, .int .i64 n, .string s]
  | 16 => .bool true
  | 17 => .bool true
  | 18 => .bool true
  | 19 => .bool true
  | _ => undef
set_option maxHeartbeats 16000000 in
set_option maxRecDepth 100000 in
theorem back_S (w : World) (k n : Int) (s : ByteArray) (k2 n2 : Int) (s2 : ByteArray) (hn : In64 n) (hn2 : In64 n) (hG : Glob w) (hm : mayV ⟨k, n, s⟩ = true) (hmw : mayV ⟨k, n, s⟩ = true) :
    Calls Tryd.prog 5 #[.agg #[.int .i64 k, .int .i64 n, .string s], .agg #[.int .i64 k, .int .i64 n, .string s]] w fun e w' => e = .returned (.bool true) ∧ Below w.heap.size w w' := by
  have HMA := Lib.hid (fun W => may_any W k n s)
  have HMW := Lib.hid (fun W => may_any W k n s)
  have HPR := Lib.hid (fun W hW => print_any W k n s hn hW)
  have HPW := Lib.hid (fun W hW => print_any W k n s hn2 hW)
  have HPA : Hid (∀ W, Glob W → Calls Tryd.prog 17 #[.string ⟨(prV ⟨k, n, s⟩).toArray⟩] W fun e w' => e = .returned (.tuple #[.agg #[.int .i64 k, .int .i64 n, .string s], .bool true]) ∧ Below W.heap.size W w') := Lib.hid (fun W hW => by
    have := parse_any W ⟨(prV ⟨k, n, s⟩).toArray⟩ hW
    rw [show (⟨(prV ⟨k, n, s⟩).toArray⟩ : ByteArray).data.toList = prV ⟨k, n, s⟩ from rfl, pr_par_v hn hm] at this
    exact this)
  rw [hm] at HMA
  rw [hmw] at HMW
  clear hmw
  generalize (⟨(prV ⟨k, n, s⟩).toArray⟩ : ByteArray) = P at *
  generalize (⟨(prV ⟨k, n, s⟩).toArray⟩ : ByteArray) = P2 at *
  have HB0 : Hid (Below w.heap.size w ((w.alloc (.cells #[.int .i64 k, .int .i64 n, .string s] 23 (0, 0))).alloc (.cells #[.int .i64 k, .int .i64 n, .string s] 23 (0, 0)))) := Lib.hid (((Below.refl _ _).alloc (Nat.le_refl _) _).alloc (by simp) _)
  have HG0 : Hid (Glob ((w.alloc (.cells #[.int .i64 k, .int .i64 n, .string s] 23 (0, 0))).alloc (.cells #[.int .i64 k, .int .i64 n, .string s] 23 (0, 0)))) := Lib.hid (hG.below HB0.out hG.size)
  have HX0 : Hid (Bx 23 ((w.alloc (.cells #[.int .i64 k, .int .i64 n, .string s] 23 (0, 0))).alloc (.cells #[.int .i64 k, .int .i64 n, .string s] 23 (0, 0))) w.heap.size #[.int .i64 k, .int .i64 n, .string s]) := Lib.hid ((Bx.new w _ _).alloc _)
  have HY0 : Hid (Bx 23 ((w.alloc (.cells #[.int .i64 k, .int .i64 n, .string s] 23 (0, 0))).alloc (.cells #[.int .i64 k, .int .i64 n, .string s] 23 (0, 0))) (w.heap.size + 1) #[.int .i64 k, .int .i64 n, .string s]) := Lib.hid (by have := Bx.new (w.alloc (.cells #[.int .i64 k, .int .i64 n, .string s] 23 (0, 0))) 23 #[.int .i64 k, .int .i64 n, .string s]; simpa using this)
  have HG := Lib.hid hG
  clear hG hn hn2 hm
  go_enter Tryd.func5, Tryd.ntmps5
  go_wp2_with (first
    | (go_at_call 9; refine (awake_any _ (HG.out.below (HB2.out.alloc HB2.out.size (.cells #[.int .i64 k, .int .i64 n, .string s] 23 (0, 0))) HG.out.size)).mono ?_; rintro e w3 ⟨rfl, hb3⟩; have HX3 := Lib.hid ((HX2.out.alloc (.cells #[.int .i64 k, .int .i64 n, .string s] 23 (0, 0))).below hb3 (by have := HX2.out.lt; simp; omega)); have HY3 := Lib.hid ((HY2.out.alloc (.cells #[.int .i64 k, .int .i64 n, .string s] 23 (0, 0))).below hb3 (by have := HY2.out.lt; simp; omega)); have HZ3 := Lib.hid ((Bx.new w2 23 #[.int .i64 k, .int .i64 n, .string s]).below hb3 (by simp)); have c0 := HX3.out.c (j := 0) rfl; have c1 := HX3.out.c (j := 1) rfl; have c2 := HX3.out.c (j := 2) rfl; have HB3 := Lib.hid ((HB2.out.alloc HB2.out.size (.cells #[.int .i64 k, .int .i64 n, .string s] 23 (0, 0))).trans (hb3.mono (by have := HB2.out.size; simp; omega))); clear hb3)
    | (go_at_call 10; refine (HMA.out _).mono ?_; rintro e w4 ⟨rfl, hb4⟩; have HX4 := Lib.hid (HX3.out.below hb4 HX3.out.lt); have HY4 := Lib.hid (HY3.out.below hb4 HY3.out.lt); have hz4 := HZ3.out.below hb4 HZ3.out.lt; have d0 := HX4.out.c (j := 0) rfl; have d1 := HX4.out.c (j := 1) rfl; have d2 := HX4.out.c (j := 2) rfl; have g0 := hz4.c (j := 0) rfl; have g1 := hz4.c (j := 1) rfl; have g2 := hz4.c (j := 2) rfl; have HB4 := Lib.hid (HB3.out.trans (hb4.mono HB3.out.size)); clear hb4 hz4)
    | (go_at_call 17; refine (HPA.out _ (HG.out.below HB1.out HG.out.size)).mono ?_; rintro e w2 ⟨rfl, hb2⟩; have HX2 := Lib.hid (HX1.out.below hb2 HX1.out.lt); have HY2 := Lib.hid (HY1.out.below hb2 HY1.out.lt); have HB2 := Lib.hid (HB1.out.trans (hb2.mono HB1.out.size)); clear hb2)
    | (go_at_call 12; refine (HPR.out _ HG0.out).mono ?_; rintro e w1 ⟨rfl, hb1⟩; have HX1 := Lib.hid (HX0.out.below hb1 HX0.out.lt); have HY1 := Lib.hid (HY0.out.below hb1 HY0.out.lt); have HB1 := Lib.hid (HB0.out.trans (hb1.mono HB0.out.size)); clear hb1))
  have HVb := HX4
  have HWb := HY4
  have HGb := Lib.hid (HG.out.below HB4.out HG.out.size)
  have HSZ0 := Lib.hid HB4.out.size
  clear HX4 HY4 HB0 HG0 HX0 HY0 HX1 HY1
  try clear d0 d1 d2 g0 g1 g2
  try clear c0 c1 c2
  generalize hbz : w.heap.size = b at *
  have HBZ := Lib.hid hbz
  clear hbz
  refine wp_region_steps (fun i v _ => v = backS P P2 b k n s k n s i) (belR w4.heap.size) (by kernel_rfl) (by kernel_rfl) (fun _ => Below.refl _ _) (fun _ _ _ h k => belR_trans h k) (fun _ _ _ _ h _ => h) ?_ ?_
  · refine ⟨?_, ?_, ?_, ?_, ?_, ?_, ?_, ?_, ?_, ?_, ?_, ?_, ?_, ?_, ?_, ?_, ?_, ?_, ?_, ?_, trivial⟩
    · intro a W hR hoff hd
      left
      refine ⟨rfl, ?_⟩
      have e0 : a.tmps.getD 2 undef = .pointer (some ⟨b, 0, none⟩) := hoff.slot 2 (no_dst (by kernel_rfl))
      have c0 := (HVb.out.below (und hR) HVb.out.lt).c (j := 0) rfl
      have c1 := (HVb.out.below (und hR) HVb.out.lt).c (j := 1) rfl
      have c2 := (HVb.out.below (und hR) HVb.out.lt).c (j := 2) rfl
      go_simp
      exact ⟨_, rfl, rfl, Below.refl _ _⟩
    · intro a W hR hoff hd
      left
      refine ⟨rfl, ?_⟩
      have e0 : a.tmps.getD 29 undef = .agg #[.int .i64 k, .int .i64 n, .string s] := hd 0 _ rfl rfl
      go_simp
      refine (HMA.out W).mono ?_
      rintro e W2 ⟨rfl, hb2⟩
      exact ⟨_, rfl, rfl, belR_of hR (Nat.le_refl _) hb2⟩
    · intro a W hR hoff hd
      left
      refine ⟨rfl, ?_⟩
      have e0 : a.tmps.getD 30 undef = .bool true := hd 1 _ rfl rfl
      go_simp
      exact ⟨_, rfl, rfl, Below.refl _ _⟩
    · intro a W hR hoff hd
      left
      refine ⟨rfl, ?_⟩
      have e0 : a.tmps.getD 31 undef = .bool false := hd 2 _ rfl rfl
      go_simp
      exact ⟨_, rfl, rfl, Below.refl _ _⟩
    · intro a W hR hoff hd
      left
      have eg : a.tmps.getD 32 undef = .bool false := hd 3 _ rfl rfl
      refine ⟨wanted_of (ops := _) (j := 3) (b := false) rfl rfl rfl eg, ?_⟩
      clear eg
      have e0 : a.tmps.getD 3 undef = .pointer (some ⟨b + 1, 0, none⟩) := hoff.slot 3 (no_dst (by kernel_rfl))
      have c0 := (HWb.out.below (und hR) HWb.out.lt).c (j := 0) rfl
      have c1 := (HWb.out.below (und hR) HWb.out.lt).c (j := 1) rfl
      have c2 := (HWb.out.below (und hR) HWb.out.lt).c (j := 2) rfl
      go_simp
      exact ⟨_, rfl, rfl, Below.refl _ _⟩
    · intro a W hR hoff hd
      left
      have eg : a.tmps.getD 32 undef = .bool false := hd 3 _ rfl rfl
      refine ⟨wanted_of (ops := _) (j := 3) (b := false) rfl rfl rfl eg, ?_⟩
      clear eg
      have e0 : a.tmps.getD 33 undef = .agg #[.int .i64 k, .int .i64 n, .string s] := hd 4 _ rfl rfl
      go_simp
      refine (HMW.out W).mono ?_
      rintro e W2 ⟨rfl, hb2⟩
      exact ⟨_, rfl, rfl, belR_of hR (Nat.le_refl _) hb2⟩
    · intro a W hR hoff hd
      left
      have eg : a.tmps.getD 32 undef = .bool false := hd 3 _ rfl rfl
      refine ⟨wanted_of (ops := _) (j := 3) (b := false) rfl rfl rfl eg, ?_⟩
      clear eg
      have e0 : a.tmps.getD 34 undef = .bool true := hd 5 _ rfl rfl
      go_simp
      exact ⟨_, rfl, rfl, Below.refl _ _⟩
    · intro a W hR hoff hd
      left
      refine ⟨rfl, ?_⟩
      have e0 : a.tmps.getD 32 undef = .bool false := hd 3 _ rfl rfl
      have e1 : a.tmps.getD 35 undef = .bool false := hd 6 _ rfl rfl
      go_simp
      exact ⟨_, rfl, rfl, Below.refl _ _⟩
    · intro a W hR hoff hd
      left
      refine ⟨rfl, ?_⟩
      have e0 : a.tmps.getD 36 undef = .bool false := hd 7 _ rfl rfl
      go_simp
      exact ⟨_, rfl, rfl, Below.refl _ _⟩
    · intro a W hR hoff hd
      left
      have eg : a.tmps.getD 37 undef = .bool false := hd 8 _ rfl rfl
      refine ⟨wanted_of (ops := _) (j := 8) (b := false) rfl rfl rfl eg, ?_⟩
      clear eg
      have e0 : a.tmps.getD 2 undef = .pointer (some ⟨b, 0, none⟩) := hoff.slot 2 (no_dst (by kernel_rfl))
      have c0 := (HVb.out.below (und hR) HVb.out.lt).c (j := 0) rfl
      have c1 := (HVb.out.below (und hR) HVb.out.lt).c (j := 1) rfl
      have c2 := (HVb.out.below (und hR) HVb.out.lt).c (j := 2) rfl
      go_simp
      exact ⟨_, rfl, rfl, Below.refl _ _⟩
    · intro a W hR hoff hd
      left
      have eg : a.tmps.getD 37 undef = .bool false := hd 8 _ rfl rfl
      refine ⟨wanted_of (ops := _) (j := 8) (b := false) rfl rfl rfl eg, ?_⟩
      clear eg
      have e0 : a.tmps.getD 38 undef = .agg #[.int .i64 k, .int .i64 n, .string s] := hd 9 _ rfl rfl
      go_simp
      refine (HPR.out W (HGb.out.below (und hR) HGb.out.size)).mono ?_
      rintro e W2 ⟨rfl, hb2⟩
      exact ⟨_, rfl, rfl, belR_of hR (Nat.le_refl _) hb2⟩
    · intro a W hR hoff hd
      left
      have eg : a.tmps.getD 37 undef = .bool false := hd 8 _ rfl rfl
      refine ⟨wanted_of (ops := _) (j := 8) (b := false) rfl rfl rfl eg, ?_⟩
      clear eg
      have e0 : a.tmps.getD 3 undef = .pointer (some ⟨b + 1, 0, none⟩) := hoff.slot 3 (no_dst (by kernel_rfl))
      have c0 := (HWb.out.below (und hR) HWb.out.lt).c (j := 0) rfl
      have c1 := (HWb.out.below (und hR) HWb.out.lt).c (j := 1) rfl
      have c2 := (HWb.out.below (und hR) HWb.out.lt).c (j := 2) rfl
      go_simp
      exact ⟨_, rfl, rfl, Below.refl _ _⟩
    · intro a W hR hoff hd
      left
      have eg : a.tmps.getD 37 undef = .bool false := hd 8 _ rfl rfl
      refine ⟨wanted_of (ops := _) (j := 8) (b := false) rfl rfl rfl eg, ?_⟩
      clear eg
      have e0 : a.tmps.getD 40 undef = .agg #[.int .i64 k, .int .i64 n, .string s] := hd 11 _ rfl rfl
      go_simp
      refine (HPW.out W (HGb.out.below (und hR) HGb.out.size)).mono ?_
      rintro e W2 ⟨rfl, hb2⟩
      exact ⟨_, rfl, rfl, belR_of hR (Nat.le_refl _) hb2⟩
    · intro a W hR hoff hd
      left
      have eg : a.tmps.getD 37 undef = .bool false := hd 8 _ rfl rfl
      refine ⟨wanted_of (ops := _) (j := 8) (b := false) rfl rfl rfl eg, ?_⟩
      clear eg
      have e0 : a.tmps.getD 39 undef = .string P := hd 10 _ rfl rfl
      have e1 : a.tmps.getD 41 undef = .string P := hd 12 _ rfl rfl
      go_simp
      first | exact ⟨_, rfl, rfl, Below.refl _ _⟩ | exact ⟨_, rfl, congrArg Value.bool (by assumption), Below.refl _ _⟩
    · intro a W hR hoff hd
      left
      have eg : a.tmps.getD 37 undef = .bool false := hd 8 _ rfl rfl
      refine ⟨wanted_of (ops := _) (j := 8) (b := false) rfl rfl rfl eg, ?_⟩
      clear eg
      have e0 : a.tmps.getD 2 undef = .pointer (some ⟨b, 0, none⟩) := hoff.slot 2 (no_dst (by kernel_rfl))
      have c0 := (HVb.out.below (und hR) HVb.out.lt).c (j := 0) rfl
      have c1 := (HVb.out.below (und hR) HVb.out.lt).c (j := 1) rfl
      have c2 := (HVb.out.below (und hR) HVb.out.lt).c (j := 2) rfl
      go_simp
      exact ⟨_, rfl, rfl, Below.refl _ _⟩
    · intro a W hR hoff hd
      left
      have eg : a.tmps.getD 37 undef = .bool false := hd 8 _ rfl rfl
      refine ⟨wanted_of (ops := _) (j := 8) (b := false) rfl rfl rfl eg, ?_⟩
      clear eg
      have e0 : a.tmps.getD 3 undef = .pointer (some ⟨b + 1, 0, none⟩) := hoff.slot 3 (no_dst (by kernel_rfl))
      have c0 := (HWb.out.below (und hR) HWb.out.lt).c (j := 0) rfl
      have c1 := (HWb.out.below (und hR) HWb.out.lt).c (j := 1) rfl
      have c2 := (HWb.out.below (und hR) HWb.out.lt).c (j := 2) rfl
      go_simp
      exact ⟨_, rfl, rfl, Below.refl _ _⟩
    · intro a W hR hoff hd
      left
      have eg : a.tmps.getD 37 undef = .bool false := hd 8 _ rfl rfl
      refine ⟨wanted_of (ops := _) (j := 8) (b := false) rfl rfl rfl eg, ?_⟩
      clear eg
      have e0 : a.tmps.getD 43 undef = .agg #[.int .i64 k, .int .i64 n, .string s] := hd 14 _ rfl rfl
      have e1 : a.tmps.getD 44 undef = .agg #[.int .i64 k, .int .i64 n, .string s] := hd 15 _ rfl rfl
      go_simp
      first | exact ⟨_, rfl, rfl, Below.refl _ _⟩ | exact ⟨_, rfl, congrArg Value.bool (by assumption), Below.refl _ _⟩
    · intro a W hR hoff hd
      left
      have eg : a.tmps.getD 37 undef = .bool false := hd 8 _ rfl rfl
      refine ⟨wanted_of (ops := _) (j := 8) (b := false) rfl rfl rfl eg, ?_⟩
      clear eg
      have e0 : a.tmps.getD 42 undef = .bool true := hd 13 _ rfl rfl
      have e1 : a.tmps.getD 45 undef = .bool true := hd 16 _ rfl rfl
      go_simp
      first | exact ⟨_, rfl, rfl, Below.refl _ _⟩ | exact ⟨_, rfl, congrArg Value.bool (by assumption), Below.refl _ _⟩
    · intro a W hR hoff hd
      left
      refine ⟨rfl, ?_⟩
      have e0 : a.tmps.getD 37 undef = .bool false := hd 8 _ rfl rfl
      have e1 : a.tmps.getD 46 undef = .bool true := hd 17 _ rfl rfl
      go_simp
      exact ⟨_, rfl, rfl, Below.refl _ _⟩
    · intro a W hR hoff hd
      left
      refine ⟨rfl, ?_⟩
      have e0 : a.tmps.getD 47 undef = .bool true := hd 18 _ rfl rfl
      go_simp
      exact ⟨_, rfl, rfl, Below.refl _ _⟩
  · intro a W hR hoff hd
    have e4 : a.tmps.getD 4 undef = .bool true := hd 19 _ rfl
    rename_i hK
    refine hK _ _ ?_
    go_wp2
    refine bodyPost_ret (results_tmp rfl _ _ _) hoff.defers ⟨by rw [e4], ?_⟩
    rw [HBZ.out]
    exact HB4.out.trans (Below.mono (und hR) HSZ0.out)
def backK (P P2 : ByteArray) (b : Nat) (k n : Int) (s : ByteArray) (k2 n2 : Int) (s2 : ByteArray) : Nat → Value
  | 0 => .agg #[.int .i64 k, .int .i64 n, .string s]
  | 1 => .bool true
  | 2 => .bool false
  | 3 => .bool false
  | 4 => .agg #[.int .i64 k2, .int .i64 n2, .string s2]
  | 5 => .bool true
  | 6 => .bool false
  | 7 => .bool false
  | 8 => .bool false
  | 9 => .agg #[.int .i64 k, .int .i64 n, .string s]
  | 10 => .string P
  | 11 => .agg #[.int .i64 k2, .int .i64 n2, .string s2]
  | 12 => .string P2
  | 13 => .bool false
  | 14 => .agg #[.int .i64 k, .int .i64 n, .string s]
  | 15 => .agg #[.int .i64 k2, .int .i64 n2, .string s2]
  | 16 => .bool false
  | 17 => .bool true
  | 18 => .bool true
  | 19 => .bool true
  | _ => undef
set_option maxHeartbeats 16000000 in
set_option maxRecDepth 100000 in
theorem back_K (w : World) (k n : Int) (s : ByteArray) (k2 n2 : Int) (s2 : ByteArray) (hn : In64 n) (hn2 : In64 n2) (hG : Glob w) (hm : mayV ⟨k, n, s⟩ = true) (hmw : mayV ⟨k2, n2, s2⟩ = true) (hd : k ≠ k2) :
    Calls Tryd.prog 5 #[.agg #[.int .i64 k, .int .i64 n, .string s], .agg #[.int .i64 k2, .int .i64 n2, .string s2]] w fun e w' => e = .returned (.bool true) ∧ Below w.heap.size w w' := by
  have hpe : ((⟨(prV ⟨k, n, s⟩).toArray⟩ : ByteArray).toList == (⟨(prV ⟨k2, n2, s2⟩).toArray⟩ : ByteArray).toList) = false := by
    refine beq_eq_false_iff_ne.2 (fun e => ?_)
    rw [ByteArray.toList_eq, ByteArray.toList_eq] at e
    have := pr_inj hn hn2 hm hmw (by simpa using e)
    injection this with a1 a2 a3
    exact hd a1
  have qd : (k == k2) = false := beq_eq_false_iff_ne.2 hd
  have HMA := Lib.hid (fun W => may_any W k n s)
  have HMW := Lib.hid (fun W => may_any W k2 n2 s2)
  have HPR := Lib.hid (fun W hW => print_any W k n s hn hW)
  have HPW := Lib.hid (fun W hW => print_any W k2 n2 s2 hn2 hW)
  have HPA : Hid (∀ W, Glob W → Calls Tryd.prog 17 #[.string ⟨(prV ⟨k, n, s⟩).toArray⟩] W fun e w' => e = .returned (.tuple #[.agg #[.int .i64 k, .int .i64 n, .string s], .bool true]) ∧ Below W.heap.size W w') := Lib.hid (fun W hW => by
    have := parse_any W ⟨(prV ⟨k, n, s⟩).toArray⟩ hW
    rw [show (⟨(prV ⟨k, n, s⟩).toArray⟩ : ByteArray).data.toList = prV ⟨k, n, s⟩ from rfl, pr_par_v hn hm] at this
    exact this)
  rw [hm] at HMA
  rw [hmw] at HMW
  clear hmw
  generalize (⟨(prV ⟨k, n, s⟩).toArray⟩ : ByteArray) = P at *
  generalize (⟨(prV ⟨k2, n2, s2⟩).toArray⟩ : ByteArray) = P2 at *
  have HB0 : Hid (Below w.heap.size w ((w.alloc (.cells #[.int .i64 k, .int .i64 n, .string s] 23 (0, 0))).alloc (.cells #[.int .i64 k2, .int .i64 n2, .string s2] 23 (0, 0)))) := Lib.hid (((Below.refl _ _).alloc (Nat.le_refl _) _).alloc (by simp) _)
  have HG0 : Hid (Glob ((w.alloc (.cells #[.int .i64 k, .int .i64 n, .string s] 23 (0, 0))).alloc (.cells #[.int .i64 k2, .int .i64 n2, .string s2] 23 (0, 0)))) := Lib.hid (hG.below HB0.out hG.size)
  have HX0 : Hid (Bx 23 ((w.alloc (.cells #[.int .i64 k, .int .i64 n, .string s] 23 (0, 0))).alloc (.cells #[.int .i64 k2, .int .i64 n2, .string s2] 23 (0, 0))) w.heap.size #[.int .i64 k, .int .i64 n, .string s]) := Lib.hid ((Bx.new w _ _).alloc _)
  have HY0 : Hid (Bx 23 ((w.alloc (.cells #[.int .i64 k, .int .i64 n, .string s] 23 (0, 0))).alloc (.cells #[.int .i64 k2, .int .i64 n2, .string s2] 23 (0, 0))) (w.heap.size + 1) #[.int .i64 k2, .int .i64 n2, .string s2]) := Lib.hid (by have := Bx.new (w.alloc (.cells #[.int .i64 k, .int .i64 n, .string s] 23 (0, 0))) 23 #[.int .i64 k2, .int .i64 n2, .string s2]; simpa using this)
  have HG := Lib.hid hG
  clear hG hn hn2 hm
  go_enter Tryd.func5, Tryd.ntmps5
  go_wp2_with (first
    | (go_at_call 9; refine (awake_any _ (HG.out.below (HB2.out.alloc HB2.out.size (.cells #[.int .i64 k, .int .i64 n, .string s] 23 (0, 0))) HG.out.size)).mono ?_; rintro e w3 ⟨rfl, hb3⟩; have HX3 := Lib.hid ((HX2.out.alloc (.cells #[.int .i64 k, .int .i64 n, .string s] 23 (0, 0))).below hb3 (by have := HX2.out.lt; simp; omega)); have HY3 := Lib.hid ((HY2.out.alloc (.cells #[.int .i64 k, .int .i64 n, .string s] 23 (0, 0))).below hb3 (by have := HY2.out.lt; simp; omega)); have HZ3 := Lib.hid ((Bx.new w2 23 #[.int .i64 k, .int .i64 n, .string s]).below hb3 (by simp)); have c0 := HX3.out.c (j := 0) rfl; have c1 := HX3.out.c (j := 1) rfl; have c2 := HX3.out.c (j := 2) rfl; have HB3 := Lib.hid ((HB2.out.alloc HB2.out.size (.cells #[.int .i64 k, .int .i64 n, .string s] 23 (0, 0))).trans (hb3.mono (by have := HB2.out.size; simp; omega))); clear hb3)
    | (go_at_call 10; refine (HMA.out _).mono ?_; rintro e w4 ⟨rfl, hb4⟩; have HX4 := Lib.hid (HX3.out.below hb4 HX3.out.lt); have HY4 := Lib.hid (HY3.out.below hb4 HY3.out.lt); have hz4 := HZ3.out.below hb4 HZ3.out.lt; have d0 := HX4.out.c (j := 0) rfl; have d1 := HX4.out.c (j := 1) rfl; have d2 := HX4.out.c (j := 2) rfl; have g0 := hz4.c (j := 0) rfl; have g1 := hz4.c (j := 1) rfl; have g2 := hz4.c (j := 2) rfl; have HB4 := Lib.hid (HB3.out.trans (hb4.mono HB3.out.size)); clear hb4 hz4)
    | (go_at_call 17; refine (HPA.out _ (HG.out.below HB1.out HG.out.size)).mono ?_; rintro e w2 ⟨rfl, hb2⟩; have HX2 := Lib.hid (HX1.out.below hb2 HX1.out.lt); have HY2 := Lib.hid (HY1.out.below hb2 HY1.out.lt); have HB2 := Lib.hid (HB1.out.trans (hb2.mono HB1.out.size)); clear hb2)
    | (go_at_call 12; refine (HPR.out _ HG0.out).mono ?_; rintro e w1 ⟨rfl, hb1⟩; have HX1 := Lib.hid (HX0.out.below hb1 HX0.out.lt); have HY1 := Lib.hid (HY0.out.below hb1 HY0.out.lt); have HB1 := Lib.hid (HB0.out.trans (hb1.mono HB0.out.size)); clear hb1))
  have HVb := HX4
  have HWb := HY4
  have HGb := Lib.hid (HG.out.below HB4.out HG.out.size)
  have HSZ0 := Lib.hid HB4.out.size
  clear HX4 HY4 HB0 HG0 HX0 HY0 HX1 HY1
  try clear d0 d1 d2 g0 g1 g2
  try clear c0 c1 c2
  generalize hbz : w.heap.size = b at *
  have HBZ := Lib.hid hbz
  clear hbz
  refine wp_region_steps (fun i v _ => v = backK P P2 b k n s k2 n2 s2 i) (belR w4.heap.size) (by kernel_rfl) (by kernel_rfl) (fun _ => Below.refl _ _) (fun _ _ _ h k => belR_trans h k) (fun _ _ _ _ h _ => h) ?_ ?_
  · refine ⟨?_, ?_, ?_, ?_, ?_, ?_, ?_, ?_, ?_, ?_, ?_, ?_, ?_, ?_, ?_, ?_, ?_, ?_, ?_, ?_, trivial⟩
    · intro a W hR hoff hd
      left
      refine ⟨rfl, ?_⟩
      have e0 : a.tmps.getD 2 undef = .pointer (some ⟨b, 0, none⟩) := hoff.slot 2 (no_dst (by kernel_rfl))
      have c0 := (HVb.out.below (und hR) HVb.out.lt).c (j := 0) rfl
      have c1 := (HVb.out.below (und hR) HVb.out.lt).c (j := 1) rfl
      have c2 := (HVb.out.below (und hR) HVb.out.lt).c (j := 2) rfl
      go_simp
      exact ⟨_, rfl, rfl, Below.refl _ _⟩
    · intro a W hR hoff hd
      left
      refine ⟨rfl, ?_⟩
      have e0 : a.tmps.getD 29 undef = .agg #[.int .i64 k, .int .i64 n, .string s] := hd 0 _ rfl rfl
      go_simp
      refine (HMA.out W).mono ?_
      rintro e W2 ⟨rfl, hb2⟩
      exact ⟨_, rfl, rfl, belR_of hR (Nat.le_refl _) hb2⟩
    · intro a W hR hoff hd
      left
      refine ⟨rfl, ?_⟩
      have e0 : a.tmps.getD 30 undef = .bool true := hd 1 _ rfl rfl
      go_simp
      exact ⟨_, rfl, rfl, Below.refl _ _⟩
    · intro a W hR hoff hd
      left
      refine ⟨rfl, ?_⟩
      have e0 : a.tmps.getD 31 undef = .bool false := hd 2 _ rfl rfl
      go_simp
      exact ⟨_, rfl, rfl, Below.refl _ _⟩
    · intro a W hR hoff hd
      left
      have eg : a.tmps.getD 32 undef = .bool false := hd 3 _ rfl rfl
      refine ⟨wanted_of (ops := _) (j := 3) (b := false) rfl rfl rfl eg, ?_⟩
      clear eg
      have e0 : a.tmps.getD 3 undef = .pointer (some ⟨b + 1, 0, none⟩) := hoff.slot 3 (no_dst (by kernel_rfl))
      have c0 := (HWb.out.below (und hR) HWb.out.lt).c (j := 0) rfl
      have c1 := (HWb.out.below (und hR) HWb.out.lt).c (j := 1) rfl
      have c2 := (HWb.out.below (und hR) HWb.out.lt).c (j := 2) rfl
      go_simp
      exact ⟨_, rfl, rfl, Below.refl _ _⟩
    · intro a W hR hoff hd
      left
      have eg : a.tmps.getD 32 undef = .bool false := hd 3 _ rfl rfl
      refine ⟨wanted_of (ops := _) (j := 3) (b := false) rfl rfl rfl eg, ?_⟩
      clear eg
      have e0 : a.tmps.getD 33 undef = .agg #[.int .i64 k2, .int .i64 n2, .string s2] := hd 4 _ rfl rfl
      go_simp
      refine (HMW.out W).mono ?_
      rintro e W2 ⟨rfl, hb2⟩
      exact ⟨_, rfl, rfl, belR_of hR (Nat.le_refl _) hb2⟩
    · intro a W hR hoff hd
      left
      have eg : a.tmps.getD 32 undef = .bool false := hd 3 _ rfl rfl
      refine ⟨wanted_of (ops := _) (j := 3) (b := false) rfl rfl rfl eg, ?_⟩
      clear eg
      have e0 : a.tmps.getD 34 undef = .bool true := hd 5 _ rfl rfl
      go_simp
      exact ⟨_, rfl, rfl, Below.refl _ _⟩
    · intro a W hR hoff hd
      left
      refine ⟨rfl, ?_⟩
      have e0 : a.tmps.getD 32 undef = .bool false := hd 3 _ rfl rfl
      have e1 : a.tmps.getD 35 undef = .bool false := hd 6 _ rfl rfl
      go_simp
      exact ⟨_, rfl, rfl, Below.refl _ _⟩
    · intro a W hR hoff hd
      left
      refine ⟨rfl, ?_⟩
      have e0 : a.tmps.getD 36 undef = .bool false := hd 7 _ rfl rfl
      go_simp
      exact ⟨_, rfl, rfl, Below.refl _ _⟩
    · intro a W hR hoff hd
      left
      have eg : a.tmps.getD 37 undef = .bool false := hd 8 _ rfl rfl
      refine ⟨wanted_of (ops := _) (j := 8) (b := false) rfl rfl rfl eg, ?_⟩
      clear eg
      have e0 : a.tmps.getD 2 undef = .pointer (some ⟨b, 0, none⟩) := hoff.slot 2 (no_dst (by kernel_rfl))
      have c0 := (HVb.out.below (und hR) HVb.out.lt).c (j := 0) rfl
      have c1 := (HVb.out.below (und hR) HVb.out.lt).c (j := 1) rfl
      have c2 := (HVb.out.below (und hR) HVb.out.lt).c (j := 2) rfl
      go_simp
      exact ⟨_, rfl, rfl, Below.refl _ _⟩
    · intro a W hR hoff hd
      left
      have eg : a.tmps.getD 37 undef = .bool false := hd 8 _ rfl rfl
      refine ⟨wanted_of (ops := _) (j := 8) (b := false) rfl rfl rfl eg, ?_⟩
      clear eg
      have e0 : a.tmps.getD 38 undef = .agg #[.int .i64 k, .int .i64 n, .string s] := hd 9 _ rfl rfl
      go_simp
      refine (HPR.out W (HGb.out.below (und hR) HGb.out.size)).mono ?_
      rintro e W2 ⟨rfl, hb2⟩
      exact ⟨_, rfl, rfl, belR_of hR (Nat.le_refl _) hb2⟩
    · intro a W hR hoff hd
      left
      have eg : a.tmps.getD 37 undef = .bool false := hd 8 _ rfl rfl
      refine ⟨wanted_of (ops := _) (j := 8) (b := false) rfl rfl rfl eg, ?_⟩
      clear eg
      have e0 : a.tmps.getD 3 undef = .pointer (some ⟨b + 1, 0, none⟩) := hoff.slot 3 (no_dst (by kernel_rfl))
      have c0 := (HWb.out.below (und hR) HWb.out.lt).c (j := 0) rfl
      have c1 := (HWb.out.below (und hR) HWb.out.lt).c (j := 1) rfl
      have c2 := (HWb.out.below (und hR) HWb.out.lt).c (j := 2) rfl
      go_simp
      exact ⟨_, rfl, rfl, Below.refl _ _⟩
    · intro a W hR hoff hd
      left
      have eg : a.tmps.getD 37 undef = .bool false := hd 8 _ rfl rfl
      refine ⟨wanted_of (ops := _) (j := 8) (b := false) rfl rfl rfl eg, ?_⟩
      clear eg
      have e0 : a.tmps.getD 40 undef = .agg #[.int .i64 k2, .int .i64 n2, .string s2] := hd 11 _ rfl rfl
      go_simp
      refine (HPW.out W (HGb.out.below (und hR) HGb.out.size)).mono ?_
      rintro e W2 ⟨rfl, hb2⟩
      exact ⟨_, rfl, rfl, belR_of hR (Nat.le_refl _) hb2⟩
    · intro a W hR hoff hd
      left
      have eg : a.tmps.getD 37 undef = .bool false := hd 8 _ rfl rfl
      refine ⟨wanted_of (ops := _) (j := 8) (b := false) rfl rfl rfl eg, ?_⟩
      clear eg
      have e0 : a.tmps.getD 39 undef = .string P := hd 10 _ rfl rfl
      have e1 : a.tmps.getD 41 undef = .string P2 := hd 12 _ rfl rfl
      go_simp
      first | exact ⟨_, rfl, rfl, Below.refl _ _⟩ | exact ⟨_, rfl, congrArg Value.bool (by assumption), Below.refl _ _⟩
    · intro a W hR hoff hd
      left
      have eg : a.tmps.getD 37 undef = .bool false := hd 8 _ rfl rfl
      refine ⟨wanted_of (ops := _) (j := 8) (b := false) rfl rfl rfl eg, ?_⟩
      clear eg
      have e0 : a.tmps.getD 2 undef = .pointer (some ⟨b, 0, none⟩) := hoff.slot 2 (no_dst (by kernel_rfl))
      have c0 := (HVb.out.below (und hR) HVb.out.lt).c (j := 0) rfl
      have c1 := (HVb.out.below (und hR) HVb.out.lt).c (j := 1) rfl
      have c2 := (HVb.out.below (und hR) HVb.out.lt).c (j := 2) rfl
      go_simp
      exact ⟨_, rfl, rfl, Below.refl _ _⟩
    · intro a W hR hoff hd
      left
      have eg : a.tmps.getD 37 undef = .bool false := hd 8 _ rfl rfl
      refine ⟨wanted_of (ops := _) (j := 8) (b := false) rfl rfl rfl eg, ?_⟩
      clear eg
      have e0 : a.tmps.getD 3 undef = .pointer (some ⟨b + 1, 0, none⟩) := hoff.slot 3 (no_dst (by kernel_rfl))
      have c0 := (HWb.out.below (und hR) HWb.out.lt).c (j := 0) rfl
      have c1 := (HWb.out.below (und hR) HWb.out.lt).c (j := 1) rfl
      have c2 := (HWb.out.below (und hR) HWb.out.lt).c (j := 2) rfl
      go_simp
      exact ⟨_, rfl, rfl, Below.refl _ _⟩
    · intro a W hR hoff hd
      left
      have eg : a.tmps.getD 37 undef = .bool false := hd 8 _ rfl rfl
      refine ⟨wanted_of (ops := _) (j := 8) (b := false) rfl rfl rfl eg, ?_⟩
      clear eg
      have e0 : a.tmps.getD 43 undef = .agg #[.int .i64 k, .int .i64 n, .string s] := hd 14 _ rfl rfl
      have e1 : a.tmps.getD 44 undef = .agg #[.int .i64 k2, .int .i64 n2, .string s2] := hd 15 _ rfl rfl
      go_simp
      first | exact ⟨_, rfl, rfl, Below.refl _ _⟩ | exact ⟨_, rfl, congrArg Value.bool (by assumption), Below.refl _ _⟩
    · intro a W hR hoff hd
      left
      have eg : a.tmps.getD 37 undef = .bool false := hd 8 _ rfl rfl
      refine ⟨wanted_of (ops := _) (j := 8) (b := false) rfl rfl rfl eg, ?_⟩
      clear eg
      have e0 : a.tmps.getD 42 undef = .bool false := hd 13 _ rfl rfl
      have e1 : a.tmps.getD 45 undef = .bool false := hd 16 _ rfl rfl
      go_simp
      first | exact ⟨_, rfl, rfl, Below.refl _ _⟩ | exact ⟨_, rfl, congrArg Value.bool (by assumption), Below.refl _ _⟩
    · intro a W hR hoff hd
      left
      refine ⟨rfl, ?_⟩
      have e0 : a.tmps.getD 37 undef = .bool false := hd 8 _ rfl rfl
      have e1 : a.tmps.getD 46 undef = .bool true := hd 17 _ rfl rfl
      go_simp
      exact ⟨_, rfl, rfl, Below.refl _ _⟩
    · intro a W hR hoff hd
      left
      refine ⟨rfl, ?_⟩
      have e0 : a.tmps.getD 47 undef = .bool true := hd 18 _ rfl rfl
      go_simp
      exact ⟨_, rfl, rfl, Below.refl _ _⟩
  · intro a W hR hoff hd
    have e4 : a.tmps.getD 4 undef = .bool true := hd 19 _ rfl
    rename_i hK
    refine hK _ _ ?_
    go_wp2
    refine bodyPost_ret (results_tmp rfl _ _ _) hoff.defers ⟨by rw [e4], ?_⟩
    rw [HBZ.out]
    exact HB4.out.trans (Below.mono (und hR) HSZ0.out)
def backM (P P2 : ByteArray) (b : Nat) (k n : Int) (s : ByteArray) (k2 n2 : Int) (s2 : ByteArray) : Nat → Value
  | 0 => .agg #[.int .i64 k, .int .i64 n, .string s]
  | 1 => .bool true
  | 2 => .bool false
  | 3 => .bool false
  | 4 => .agg #[.int .i64 k, .int .i64 n2, .string s2]
  | 5 => .bool true
  | 6 => .bool false
  | 7 => .bool false
  | 8 => .bool false
  | 9 => .agg #[.int .i64 k, .int .i64 n, .string s]
  | 10 => .string P
  | 11 => .agg #[.int .i64 k, .int .i64 n2, .string s2]
  | 12 => .string P2
  | 13 => .bool false
  | 14 => .agg #[.int .i64 k, .int .i64 n, .string s]
  | 15 => .agg #[.int .i64 k, .int .i64 n2, .string s2]
  | 16 => .bool false
  | 17 => .bool true
  | 18 => .bool true
  | 19 => .bool true
  | _ => undef
set_option maxHeartbeats 16000000 in
set_option maxRecDepth 100000 in
theorem back_M (w : World) (k n : Int) (s : ByteArray) (k2 n2 : Int) (s2 : ByteArray) (hn : In64 n) (hn2 : In64 n2) (hG : Glob w) (hm : mayV ⟨k, n, s⟩ = true) (hmw : mayV ⟨k, n2, s2⟩ = true) (hd : n ≠ n2) :
    Calls Tryd.prog 5 #[.agg #[.int .i64 k, .int .i64 n, .string s], .agg #[.int .i64 k, .int .i64 n2, .string s2]] w fun e w' => e = .returned (.bool true) ∧ Below w.heap.size w w' := by
  have hpe : ((⟨(prV ⟨k, n, s⟩).toArray⟩ : ByteArray).toList == (⟨(prV ⟨k, n2, s2⟩).toArray⟩ : ByteArray).toList) = false := by
    refine beq_eq_false_iff_ne.2 (fun e => ?_)
    rw [ByteArray.toList_eq, ByteArray.toList_eq] at e
    have := pr_inj hn hn2 hm hmw (by simpa using e)
    injection this with a1 a2 a3
    exact hd a2
  have qd : (n == n2) = false := beq_eq_false_iff_ne.2 hd
  have HMA := Lib.hid (fun W => may_any W k n s)
  have HMW := Lib.hid (fun W => may_any W k n2 s2)
  have HPR := Lib.hid (fun W hW => print_any W k n s hn hW)
  have HPW := Lib.hid (fun W hW => print_any W k n2 s2 hn2 hW)
  have HPA : Hid (∀ W, Glob W → Calls Tryd.prog 17 #[.string ⟨(prV ⟨k, n, s⟩).toArray⟩] W fun e w' => e = .returned (.tuple #[.agg #[.int .i64 k, .int .i64 n, .string s], .bool true]) ∧ Below W.heap.size W w') := Lib.hid (fun W hW => by
    have := parse_any W ⟨(prV ⟨k, n, s⟩).toArray⟩ hW
    rw [show (⟨(prV ⟨k, n, s⟩).toArray⟩ : ByteArray).data.toList = prV ⟨k, n, s⟩ from rfl, pr_par_v hn hm] at this
    exact this)
  rw [hm] at HMA
  rw [hmw] at HMW
  clear hmw
  generalize (⟨(prV ⟨k, n, s⟩).toArray⟩ : ByteArray) = P at *
  generalize (⟨(prV ⟨k, n2, s2⟩).toArray⟩ : ByteArray) = P2 at *
  have HB0 : Hid (Below w.heap.size w ((w.alloc (.cells #[.int .i64 k, .int .i64 n, .string s] 23 (0, 0))).alloc (.cells #[.int .i64 k, .int .i64 n2, .string s2] 23 (0, 0)))) := Lib.hid (((Below.refl _ _).alloc (Nat.le_refl _) _).alloc (by simp) _)
  have HG0 : Hid (Glob ((w.alloc (.cells #[.int .i64 k, .int .i64 n, .string s] 23 (0, 0))).alloc (.cells #[.int .i64 k, .int .i64 n2, .string s2] 23 (0, 0)))) := Lib.hid (hG.below HB0.out hG.size)
  have HX0 : Hid (Bx 23 ((w.alloc (.cells #[.int .i64 k, .int .i64 n, .string s] 23 (0, 0))).alloc (.cells #[.int .i64 k, .int .i64 n2, .string s2] 23 (0, 0))) w.heap.size #[.int .i64 k, .int .i64 n, .string s]) := Lib.hid ((Bx.new w _ _).alloc _)
  have HY0 : Hid (Bx 23 ((w.alloc (.cells #[.int .i64 k, .int .i64 n, .string s] 23 (0, 0))).alloc (.cells #[.int .i64 k, .int .i64 n2, .string s2] 23 (0, 0))) (w.heap.size + 1) #[.int .i64 k, .int .i64 n2, .string s2]) := Lib.hid (by have := Bx.new (w.alloc (.cells #[.int .i64 k, .int .i64 n, .string s] 23 (0, 0))) 23 #[.int .i64 k, .int .i64 n2, .string s2]; simpa using this)
  have HG := Lib.hid hG
  clear hG hn hn2 hm
  go_enter Tryd.func5, Tryd.ntmps5
  go_wp2_with (first
    | (go_at_call 9; refine (awake_any _ (HG.out.below (HB2.out.alloc HB2.out.size (.cells #[.int .i64 k, .int .i64 n, .string s] 23 (0, 0))) HG.out.size)).mono ?_; rintro e w3 ⟨rfl, hb3⟩; have HX3 := Lib.hid ((HX2.out.alloc (.cells #[.int .i64 k, .int .i64 n, .string s] 23 (0, 0))).below hb3 (by have := HX2.out.lt; simp; omega)); have HY3 := Lib.hid ((HY2.out.alloc (.cells #[.int .i64 k, .int .i64 n, .string s] 23 (0, 0))).below hb3 (by have := HY2.out.lt; simp; omega)); have HZ3 := Lib.hid ((Bx.new w2 23 #[.int .i64 k, .int .i64 n, .string s]).below hb3 (by simp)); have c0 := HX3.out.c (j := 0) rfl; have c1 := HX3.out.c (j := 1) rfl; have c2 := HX3.out.c (j := 2) rfl; have HB3 := Lib.hid ((HB2.out.alloc HB2.out.size (.cells #[.int .i64 k, .int .i64 n, .string s] 23 (0, 0))).trans (hb3.mono (by have := HB2.out.size; simp; omega))); clear hb3)
    | (go_at_call 10; refine (HMA.out _).mono ?_; rintro e w4 ⟨rfl, hb4⟩; have HX4 := Lib.hid (HX3.out.below hb4 HX3.out.lt); have HY4 := Lib.hid (HY3.out.below hb4 HY3.out.lt); have hz4 := HZ3.out.below hb4 HZ3.out.lt; have d0 := HX4.out.c (j := 0) rfl; have d1 := HX4.out.c (j := 1) rfl; have d2 := HX4.out.c (j := 2) rfl; have g0 := hz4.c (j := 0) rfl; have g1 := hz4.c (j := 1) rfl; have g2 := hz4.c (j := 2) rfl; have HB4 := Lib.hid (HB3.out.trans (hb4.mono HB3.out.size)); clear hb4 hz4)
    | (go_at_call 17; refine (HPA.out _ (HG.out.below HB1.out HG.out.size)).mono ?_; rintro e w2 ⟨rfl, hb2⟩; have HX2 := Lib.hid (HX1.out.below hb2 HX1.out.lt); have HY2 := Lib.hid (HY1.out.below hb2 HY1.out.lt); have HB2 := Lib.hid (HB1.out.trans (hb2.mono HB1.out.size)); clear hb2)
    | (go_at_call 12; refine (HPR.out _ HG0.out).mono ?_; rintro e w1 ⟨rfl, hb1⟩; have HX1 := Lib.hid (HX0.out.below hb1 HX0.out.lt); have HY1 := Lib.hid (HY0.out.below hb1 HY0.out.lt); have HB1 := Lib.hid (HB0.out.trans (hb1.mono HB0.out.size)); clear hb1))
  have HVb := HX4
  have HWb := HY4
  have HGb := Lib.hid (HG.out.below HB4.out HG.out.size)
  have HSZ0 := Lib.hid HB4.out.size
  clear HX4 HY4 HB0 HG0 HX0 HY0 HX1 HY1
  try clear d0 d1 d2 g0 g1 g2
  try clear c0 c1 c2
  generalize hbz : w.heap.size = b at *
  have HBZ := Lib.hid hbz
  clear hbz
  refine wp_region_steps (fun i v _ => v = backM P P2 b k n s k n2 s2 i) (belR w4.heap.size) (by kernel_rfl) (by kernel_rfl) (fun _ => Below.refl _ _) (fun _ _ _ h k => belR_trans h k) (fun _ _ _ _ h _ => h) ?_ ?_
  · refine ⟨?_, ?_, ?_, ?_, ?_, ?_, ?_, ?_, ?_, ?_, ?_, ?_, ?_, ?_, ?_, ?_, ?_, ?_, ?_, ?_, trivial⟩
    · intro a W hR hoff hd
      left
      refine ⟨rfl, ?_⟩
      have e0 : a.tmps.getD 2 undef = .pointer (some ⟨b, 0, none⟩) := hoff.slot 2 (no_dst (by kernel_rfl))
      have c0 := (HVb.out.below (und hR) HVb.out.lt).c (j := 0) rfl
      have c1 := (HVb.out.below (und hR) HVb.out.lt).c (j := 1) rfl
      have c2 := (HVb.out.below (und hR) HVb.out.lt).c (j := 2) rfl
      go_simp
      exact ⟨_, rfl, rfl, Below.refl _ _⟩
    · intro a W hR hoff hd
      left
      refine ⟨rfl, ?_⟩
      have e0 : a.tmps.getD 29 undef = .agg #[.int .i64 k, .int .i64 n, .string s] := hd 0 _ rfl rfl
      go_simp
      refine (HMA.out W).mono ?_
      rintro e W2 ⟨rfl, hb2⟩
      exact ⟨_, rfl, rfl, belR_of hR (Nat.le_refl _) hb2⟩
    · intro a W hR hoff hd
      left
      refine ⟨rfl, ?_⟩
      have e0 : a.tmps.getD 30 undef = .bool true := hd 1 _ rfl rfl
      go_simp
      exact ⟨_, rfl, rfl, Below.refl _ _⟩
    · intro a W hR hoff hd
      left
      refine ⟨rfl, ?_⟩
      have e0 : a.tmps.getD 31 undef = .bool false := hd 2 _ rfl rfl
      go_simp
      exact ⟨_, rfl, rfl, Below.refl _ _⟩
    · intro a W hR hoff hd
      left
      have eg : a.tmps.getD 32 undef = .bool false := hd 3 _ rfl rfl
      refine ⟨wanted_of (ops := _) (j := 3) (b := false) rfl rfl rfl eg, ?_⟩
      clear eg
      have e0 : a.tmps.getD 3 undef = .pointer (some ⟨b + 1, 0, none⟩) := hoff.slot 3 (no_dst (by kernel_rfl))
      have c0 := (HWb.out.below (und hR) HWb.out.lt).c (j := 0) rfl
      have c1 := (HWb.out.below (und hR) HWb.out.lt).c (j := 1) rfl
      have c2 := (HWb.out.below (und hR) HWb.out.lt).c (j := 2) rfl
      go_simp
      exact ⟨_, rfl, rfl, Below.refl _ _⟩
    · intro a W hR hoff hd
      left
      have eg : a.tmps.getD 32 undef = .bool false := hd 3 _ rfl rfl
      refine ⟨wanted_of (ops := _) (j := 3) (b := false) rfl rfl rfl eg, ?_⟩
      clear eg
      have e0 : a.tmps.getD 33 undef = .agg #[.int .i64 k, .int .i64 n2, .string s2] := hd 4 _ rfl rfl
      go_simp
      refine (HMW.out W).mono ?_
      rintro e W2 ⟨rfl, hb2⟩
      exact ⟨_, rfl, rfl, belR_of hR (Nat.le_refl _) hb2⟩
    · intro a W hR hoff hd
      left
      have eg : a.tmps.getD 32 undef = .bool false := hd 3 _ rfl rfl
      refine ⟨wanted_of (ops := _) (j := 3) (b := false) rfl rfl rfl eg, ?_⟩
      clear eg
      have e0 : a.tmps.getD 34 undef = .bool true := hd 5 _ rfl rfl
      go_simp
      exact ⟨_, rfl, rfl, Below.refl _ _⟩
    · intro a W hR hoff hd
      left
      refine ⟨rfl, ?_⟩
      have e0 : a.tmps.getD 32 undef = .bool false := hd 3 _ rfl rfl
      have e1 : a.tmps.getD 35 undef = .bool false := hd 6 _ rfl rfl
      go_simp
      exact ⟨_, rfl, rfl, Below.refl _ _⟩
    · intro a W hR hoff hd
      left
      refine ⟨rfl, ?_⟩
      have e0 : a.tmps.getD 36 undef = .bool false := hd 7 _ rfl rfl
      go_simp
      exact ⟨_, rfl, rfl, Below.refl _ _⟩
    · intro a W hR hoff hd
      left
      have eg : a.tmps.getD 37 undef = .bool false := hd 8 _ rfl rfl
      refine ⟨wanted_of (ops := _) (j := 8) (b := false) rfl rfl rfl eg, ?_⟩
      clear eg
      have e0 : a.tmps.getD 2 undef = .pointer (some ⟨b, 0, none⟩) := hoff.slot 2 (no_dst (by kernel_rfl))
      have c0 := (HVb.out.below (und hR) HVb.out.lt).c (j := 0) rfl
      have c1 := (HVb.out.below (und hR) HVb.out.lt).c (j := 1) rfl
      have c2 := (HVb.out.below (und hR) HVb.out.lt).c (j := 2) rfl
      go_simp
      exact ⟨_, rfl, rfl, Below.refl _ _⟩
    · intro a W hR hoff hd
      left
      have eg : a.tmps.getD 37 undef = .bool false := hd 8 _ rfl rfl
      refine ⟨wanted_of (ops := _) (j := 8) (b := false) rfl rfl rfl eg, ?_⟩
      clear eg
      have e0 : a.tmps.getD 38 undef = .agg #[.int .i64 k, .int .i64 n, .string s] := hd 9 _ rfl rfl
      go_simp
      refine (HPR.out W (HGb.out.below (und hR) HGb.out.size)).mono ?_
      rintro e W2 ⟨rfl, hb2⟩
      exact ⟨_, rfl, rfl, belR_of hR (Nat.le_refl _) hb2⟩
    · intro a W hR hoff hd
      left
      have eg : a.tmps.getD 37 undef = .bool false := hd 8 _ rfl rfl
      refine ⟨wanted_of (ops := _) (j := 8) (b := false) rfl rfl rfl eg, ?_⟩
      clear eg
      have e0 : a.tmps.getD 3 undef = .pointer (some ⟨b + 1, 0, none⟩) := hoff.slot 3 (no_dst (by kernel_rfl))
      have c0 := (HWb.out.below (und hR) HWb.out.lt).c (j := 0) rfl
      have c1 := (HWb.out.below (und hR) HWb.out.lt).c (j := 1) rfl
      have c2 := (HWb.out.below (und hR) HWb.out.lt).c (j := 2) rfl
      go_simp
      exact ⟨_, rfl, rfl, Below.refl _ _⟩
    · intro a W hR hoff hd
      left
      have eg : a.tmps.getD 37 undef = .bool false := hd 8 _ rfl rfl
      refine ⟨wanted_of (ops := _) (j := 8) (b := false) rfl rfl rfl eg, ?_⟩
      clear eg
      have e0 : a.tmps.getD 40 undef = .agg #[.int .i64 k, .int .i64 n2, .string s2] := hd 11 _ rfl rfl
      go_simp
      refine (HPW.out W (HGb.out.below (und hR) HGb.out.size)).mono ?_
      rintro e W2 ⟨rfl, hb2⟩
      exact ⟨_, rfl, rfl, belR_of hR (Nat.le_refl _) hb2⟩
    · intro a W hR hoff hd
      left
      have eg : a.tmps.getD 37 undef = .bool false := hd 8 _ rfl rfl
      refine ⟨wanted_of (ops := _) (j := 8) (b := false) rfl rfl rfl eg, ?_⟩
      clear eg
      have e0 : a.tmps.getD 39 undef = .string P := hd 10 _ rfl rfl
      have e1 : a.tmps.getD 41 undef = .string P2 := hd 12 _ rfl rfl
      go_simp
      first | exact ⟨_, rfl, rfl, Below.refl _ _⟩ | exact ⟨_, rfl, congrArg Value.bool (by assumption), Below.refl _ _⟩
    · intro a W hR hoff hd
      left
      have eg : a.tmps.getD 37 undef = .bool false := hd 8 _ rfl rfl
      refine ⟨wanted_of (ops := _) (j := 8) (b := false) rfl rfl rfl eg, ?_⟩
      clear eg
      have e0 : a.tmps.getD 2 undef = .pointer (some ⟨b, 0, none⟩) := hoff.slot 2 (no_dst (by kernel_rfl))
      have c0 := (HVb.out.below (und hR) HVb.out.lt).c (j := 0) rfl
      have c1 := (HVb.out.below (und hR) HVb.out.lt).c (j := 1) rfl
      have c2 := (HVb.out.below (und hR) HVb.out.lt).c (j := 2) rfl
      go_simp
      exact ⟨_, rfl, rfl, Below.refl _ _⟩
    · intro a W hR hoff hd
      left
      have eg : a.tmps.getD 37 undef = .bool false := hd 8 _ rfl rfl
      refine ⟨wanted_of (ops := _) (j := 8) (b := false) rfl rfl rfl eg, ?_⟩
      clear eg
      have e0 : a.tmps.getD 3 undef = .pointer (some ⟨b + 1, 0, none⟩) := hoff.slot 3 (no_dst (by kernel_rfl))
      have c0 := (HWb.out.below (und hR) HWb.out.lt).c (j := 0) rfl
      have c1 := (HWb.out.below (und hR) HWb.out.lt).c (j := 1) rfl
      have c2 := (HWb.out.below (und hR) HWb.out.lt).c (j := 2) rfl
      go_simp
      exact ⟨_, rfl, rfl, Below.refl _ _⟩
    · intro a W hR hoff hd
      left
      have eg : a.tmps.getD 37 undef = .bool false := hd 8 _ rfl rfl
      refine ⟨wanted_of (ops := _) (j := 8) (b := false) rfl rfl rfl eg, ?_⟩
      clear eg
      have e0 : a.tmps.getD 43 undef = .agg #[.int .i64 k, .int .i64 n, .string s] := hd 14 _ rfl rfl
      have e1 : a.tmps.getD 44 undef = .agg #[.int .i64 k, .int .i64 n2, .string s2] := hd 15 _ rfl rfl
      go_simp
      first | exact ⟨_, rfl, rfl, Below.refl _ _⟩ | exact ⟨_, rfl, congrArg Value.bool (by assumption), Below.refl _ _⟩
    · intro a W hR hoff hd
      left
      have eg : a.tmps.getD 37 undef = .bool false := hd 8 _ rfl rfl
      refine ⟨wanted_of (ops := _) (j := 8) (b := false) rfl rfl rfl eg, ?_⟩
      clear eg
      have e0 : a.tmps.getD 42 undef = .bool false := hd 13 _ rfl rfl
      have e1 : a.tmps.getD 45 undef = .bool false := hd 16 _ rfl rfl
      go_simp
      first | exact ⟨_, rfl, rfl, Below.refl _ _⟩ | exact ⟨_, rfl, congrArg Value.bool (by assumption), Below.refl _ _⟩
    · intro a W hR hoff hd
      left
      refine ⟨rfl, ?_⟩
      have e0 : a.tmps.getD 37 undef = .bool false := hd 8 _ rfl rfl
      have e1 : a.tmps.getD 46 undef = .bool true := hd 17 _ rfl rfl
      go_simp
      exact ⟨_, rfl, rfl, Below.refl _ _⟩
    · intro a W hR hoff hd
      left
      refine ⟨rfl, ?_⟩
      have e0 : a.tmps.getD 47 undef = .bool true := hd 18 _ rfl rfl
      go_simp
      exact ⟨_, rfl, rfl, Below.refl _ _⟩
  · intro a W hR hoff hd
    have e4 : a.tmps.getD 4 undef = .bool true := hd 19 _ rfl
    rename_i hK
    refine hK _ _ ?_
    go_wp2
    refine bodyPost_ret (results_tmp rfl _ _ _) hoff.defers ⟨by rw [e4], ?_⟩
    rw [HBZ.out]
    exact HB4.out.trans (Below.mono (und hR) HSZ0.out)
def backT (P P2 : ByteArray) (b : Nat) (k n : Int) (s : ByteArray) (k2 n2 : Int) (s2 : ByteArray) : Nat → Value
  | 0 => .agg #[.int .i64 k, .int .i64 n, .string s]
  | 1 => .bool true
  | 2 => .bool false
  | 3 => .bool false
  | 4 => .agg #[.int .i64 k, .int .i64 n, .string s2]
  | 5 => .bool true
  | 6 => .bool false
  | 7 => .bool false
  | 8 => .bool false
  | 9 => .agg #[.int .i64 k, .int .i64 n, .string s]
  | 10 => .string P
  | 11 => .agg #[.int .i64 k, .int .i64 n, .string s2]
  | 12 => .string P2
  | 13 => .bool false
  | 14 => .agg #[.int .i64 k, .int .i64 n, .string s]
  | 15 => .agg #[.int .i64 k, .int .i64 n, .string s2]
  | 16 => .bool false
  | 17 => .bool true
  | 18 => .bool true
  | 19 => .bool true
  | _ => undef
set_option maxHeartbeats 16000000 in
set_option maxRecDepth 100000 in
theorem back_T (w : World) (k n : Int) (s : ByteArray) (k2 n2 : Int) (s2 : ByteArray) (hn : In64 n) (hn2 : In64 n) (hG : Glob w) (hm : mayV ⟨k, n, s⟩ = true) (hmw : mayV ⟨k, n, s2⟩ = true) (hd : s ≠ s2) :
    Calls Tryd.prog 5 #[.agg #[.int .i64 k, .int .i64 n, .string s], .agg #[.int .i64 k, .int .i64 n, .string s2]] w fun e w' => e = .returned (.bool true) ∧ Below w.heap.size w w' := by
  have hpe : ((⟨(prV ⟨k, n, s⟩).toArray⟩ : ByteArray).toList == (⟨(prV ⟨k, n, s2⟩).toArray⟩ : ByteArray).toList) = false := by
    refine beq_eq_false_iff_ne.2 (fun e => ?_)
    rw [ByteArray.toList_eq, ByteArray.toList_eq] at e
    have := pr_inj hn hn2 hm hmw (by simpa using e)
    injection this with a1 a2 a3
    exact hd a3
  have qd : (s.toList == s2.toList) = false := beq_eq_false_iff_ne.2 (fun e => hd (ba_ext (by rw [← ByteArray.toList_eq, ← ByteArray.toList_eq]; exact e)))
  have HMA := Lib.hid (fun W => may_any W k n s)
  have HMW := Lib.hid (fun W => may_any W k n s2)
  have HPR := Lib.hid (fun W hW => print_any W k n s hn hW)
  have HPW := Lib.hid (fun W hW => print_any W k n s2 hn2 hW)
  have HPA : Hid (∀ W, Glob W → Calls Tryd.prog 17 #[.string ⟨(prV ⟨k, n, s⟩).toArray⟩] W fun e w' => e = .returned (.tuple #[.agg #[.int .i64 k, .int .i64 n, .string s], .bool true]) ∧ Below W.heap.size W w') := Lib.hid (fun W hW => by
    have := parse_any W ⟨(prV ⟨k, n, s⟩).toArray⟩ hW
    rw [show (⟨(prV ⟨k, n, s⟩).toArray⟩ : ByteArray).data.toList = prV ⟨k, n, s⟩ from rfl, pr_par_v hn hm] at this
    exact this)
  rw [hm] at HMA
  rw [hmw] at HMW
  clear hmw
  generalize (⟨(prV ⟨k, n, s⟩).toArray⟩ : ByteArray) = P at *
  generalize (⟨(prV ⟨k, n, s2⟩).toArray⟩ : ByteArray) = P2 at *
  have HB0 : Hid (Below w.heap.size w ((w.alloc (.cells #[.int .i64 k, .int .i64 n, .string s] 23 (0, 0))).alloc (.cells #[.int .i64 k, .int .i64 n, .string s2] 23 (0, 0)))) := Lib.hid (((Below.refl _ _).alloc (Nat.le_refl _) _).alloc (by simp) _)
  have HG0 : Hid (Glob ((w.alloc (.cells #[.int .i64 k, .int .i64 n, .string s] 23 (0, 0))).alloc (.cells #[.int .i64 k, .int .i64 n, .string s2] 23 (0, 0)))) := Lib.hid (hG.below HB0.out hG.size)
  have HX0 : Hid (Bx 23 ((w.alloc (.cells #[.int .i64 k, .int .i64 n, .string s] 23 (0, 0))).alloc (.cells #[.int .i64 k, .int .i64 n, .string s2] 23 (0, 0))) w.heap.size #[.int .i64 k, .int .i64 n, .string s]) := Lib.hid ((Bx.new w _ _).alloc _)
  have HY0 : Hid (Bx 23 ((w.alloc (.cells #[.int .i64 k, .int .i64 n, .string s] 23 (0, 0))).alloc (.cells #[.int .i64 k, .int .i64 n, .string s2] 23 (0, 0))) (w.heap.size + 1) #[.int .i64 k, .int .i64 n, .string s2]) := Lib.hid (by have := Bx.new (w.alloc (.cells #[.int .i64 k, .int .i64 n, .string s] 23 (0, 0))) 23 #[.int .i64 k, .int .i64 n, .string s2]; simpa using this)
  have HG := Lib.hid hG
  clear hG hn hn2 hm
  go_enter Tryd.func5, Tryd.ntmps5
  go_wp2_with (first
    | (go_at_call 9; refine (awake_any _ (HG.out.below (HB2.out.alloc HB2.out.size (.cells #[.int .i64 k, .int .i64 n, .string s] 23 (0, 0))) HG.out.size)).mono ?_; rintro e w3 ⟨rfl, hb3⟩; have HX3 := Lib.hid ((HX2.out.alloc (.cells #[.int .i64 k, .int .i64 n, .string s] 23 (0, 0))).below hb3 (by have := HX2.out.lt; simp; omega)); have HY3 := Lib.hid ((HY2.out.alloc (.cells #[.int .i64 k, .int .i64 n, .string s] 23 (0, 0))).below hb3 (by have := HY2.out.lt; simp; omega)); have HZ3 := Lib.hid ((Bx.new w2 23 #[.int .i64 k, .int .i64 n, .string s]).below hb3 (by simp)); have c0 := HX3.out.c (j := 0) rfl; have c1 := HX3.out.c (j := 1) rfl; have c2 := HX3.out.c (j := 2) rfl; have HB3 := Lib.hid ((HB2.out.alloc HB2.out.size (.cells #[.int .i64 k, .int .i64 n, .string s] 23 (0, 0))).trans (hb3.mono (by have := HB2.out.size; simp; omega))); clear hb3)
    | (go_at_call 10; refine (HMA.out _).mono ?_; rintro e w4 ⟨rfl, hb4⟩; have HX4 := Lib.hid (HX3.out.below hb4 HX3.out.lt); have HY4 := Lib.hid (HY3.out.below hb4 HY3.out.lt); have hz4 := HZ3.out.below hb4 HZ3.out.lt; have d0 := HX4.out.c (j := 0) rfl; have d1 := HX4.out.c (j := 1) rfl; have d2 := HX4.out.c (j := 2) rfl; have g0 := hz4.c (j := 0) rfl; have g1 := hz4.c (j := 1) rfl; have g2 := hz4.c (j := 2) rfl; have HB4 := Lib.hid (HB3.out.trans (hb4.mono HB3.out.size)); clear hb4 hz4)
    | (go_at_call 17; refine (HPA.out _ (HG.out.below HB1.out HG.out.size)).mono ?_; rintro e w2 ⟨rfl, hb2⟩; have HX2 := Lib.hid (HX1.out.below hb2 HX1.out.lt); have HY2 := Lib.hid (HY1.out.below hb2 HY1.out.lt); have HB2 := Lib.hid (HB1.out.trans (hb2.mono HB1.out.size)); clear hb2)
    | (go_at_call 12; refine (HPR.out _ HG0.out).mono ?_; rintro e w1 ⟨rfl, hb1⟩; have HX1 := Lib.hid (HX0.out.below hb1 HX0.out.lt); have HY1 := Lib.hid (HY0.out.below hb1 HY0.out.lt); have HB1 := Lib.hid (HB0.out.trans (hb1.mono HB0.out.size)); clear hb1))
  have HVb := HX4
  have HWb := HY4
  have HGb := Lib.hid (HG.out.below HB4.out HG.out.size)
  have HSZ0 := Lib.hid HB4.out.size
  clear HX4 HY4 HB0 HG0 HX0 HY0 HX1 HY1
  try clear d0 d1 d2 g0 g1 g2
  try clear c0 c1 c2
  generalize hbz : w.heap.size = b at *
  have HBZ := Lib.hid hbz
  clear hbz
  refine wp_region_steps (fun i v _ => v = backT P P2 b k n s k n s2 i) (belR w4.heap.size) (by kernel_rfl) (by kernel_rfl) (fun _ => Below.refl _ _) (fun _ _ _ h k => belR_trans h k) (fun _ _ _ _ h _ => h) ?_ ?_
  · refine ⟨?_, ?_, ?_, ?_, ?_, ?_, ?_, ?_, ?_, ?_, ?_, ?_, ?_, ?_, ?_, ?_, ?_, ?_, ?_, ?_, trivial⟩
    · intro a W hR hoff hd
      left
      refine ⟨rfl, ?_⟩
      have e0 : a.tmps.getD 2 undef = .pointer (some ⟨b, 0, none⟩) := hoff.slot 2 (no_dst (by kernel_rfl))
      have c0 := (HVb.out.below (und hR) HVb.out.lt).c (j := 0) rfl
      have c1 := (HVb.out.below (und hR) HVb.out.lt).c (j := 1) rfl
      have c2 := (HVb.out.below (und hR) HVb.out.lt).c (j := 2) rfl
      go_simp
      exact ⟨_, rfl, rfl, Below.refl _ _⟩
    · intro a W hR hoff hd
      left
      refine ⟨rfl, ?_⟩
      have e0 : a.tmps.getD 29 undef = .agg #[.int .i64 k, .int .i64 n, .string s] := hd 0 _ rfl rfl
      go_simp
      refine (HMA.out W).mono ?_
      rintro e W2 ⟨rfl, hb2⟩
      exact ⟨_, rfl, rfl, belR_of hR (Nat.le_refl _) hb2⟩
    · intro a W hR hoff hd
      left
      refine ⟨rfl, ?_⟩
      have e0 : a.tmps.getD 30 undef = .bool true := hd 1 _ rfl rfl
      go_simp
      exact ⟨_, rfl, rfl, Below.refl _ _⟩
    · intro a W hR hoff hd
      left
      refine ⟨rfl, ?_⟩
      have e0 : a.tmps.getD 31 undef = .bool false := hd 2 _ rfl rfl
      go_simp
      exact ⟨_, rfl, rfl, Below.refl _ _⟩
    · intro a W hR hoff hd
      left
      have eg : a.tmps.getD 32 undef = .bool false := hd 3 _ rfl rfl
      refine ⟨wanted_of (ops := _) (j := 3) (b := false) rfl rfl rfl eg, ?_⟩
      clear eg
      have e0 : a.tmps.getD 3 undef = .pointer (some ⟨b + 1, 0, none⟩) := hoff.slot 3 (no_dst (by kernel_rfl))
      have c0 := (HWb.out.below (und hR) HWb.out.lt).c (j := 0) rfl
      have c1 := (HWb.out.below (und hR) HWb.out.lt).c (j := 1) rfl
      have c2 := (HWb.out.below (und hR) HWb.out.lt).c (j := 2) rfl
      go_simp
      exact ⟨_, rfl, rfl, Below.refl _ _⟩
    · intro a W hR hoff hd
      left
      have eg : a.tmps.getD 32 undef = .bool false := hd 3 _ rfl rfl
      refine ⟨wanted_of (ops := _) (j := 3) (b := false) rfl rfl rfl eg, ?_⟩
      clear eg
      have e0 : a.tmps.getD 33 undef = .agg #[.int .i64 k, .int .i64 n, .string s2] := hd 4 _ rfl rfl
      go_simp
      refine (HMW.out W).mono ?_
      rintro e W2 ⟨rfl, hb2⟩
      exact ⟨_, rfl, rfl, belR_of hR (Nat.le_refl _) hb2⟩
    · intro a W hR hoff hd
      left
      have eg : a.tmps.getD 32 undef = .bool false := hd 3 _ rfl rfl
      refine ⟨wanted_of (ops := _) (j := 3) (b := false) rfl rfl rfl eg, ?_⟩
      clear eg
      have e0 : a.tmps.getD 34 undef = .bool true := hd 5 _ rfl rfl
      go_simp
      exact ⟨_, rfl, rfl, Below.refl _ _⟩
    · intro a W hR hoff hd
      left
      refine ⟨rfl, ?_⟩
      have e0 : a.tmps.getD 32 undef = .bool false := hd 3 _ rfl rfl
      have e1 : a.tmps.getD 35 undef = .bool false := hd 6 _ rfl rfl
      go_simp
      exact ⟨_, rfl, rfl, Below.refl _ _⟩
    · intro a W hR hoff hd
      left
      refine ⟨rfl, ?_⟩
      have e0 : a.tmps.getD 36 undef = .bool false := hd 7 _ rfl rfl
      go_simp
      exact ⟨_, rfl, rfl, Below.refl _ _⟩
    · intro a W hR hoff hd
      left
      have eg : a.tmps.getD 37 undef = .bool false := hd 8 _ rfl rfl
      refine ⟨wanted_of (ops := _) (j := 8) (b := false) rfl rfl rfl eg, ?_⟩
      clear eg
      have e0 : a.tmps.getD 2 undef = .pointer (some ⟨b, 0, none⟩) := hoff.slot 2 (no_dst (by kernel_rfl))
      have c0 := (HVb.out.below (und hR) HVb.out.lt).c (j := 0) rfl
      have c1 := (HVb.out.below (und hR) HVb.out.lt).c (j := 1) rfl
      have c2 := (HVb.out.below (und hR) HVb.out.lt).c (j := 2) rfl
      go_simp
      exact ⟨_, rfl, rfl, Below.refl _ _⟩
    · intro a W hR hoff hd
      left
      have eg : a.tmps.getD 37 undef = .bool false := hd 8 _ rfl rfl
      refine ⟨wanted_of (ops := _) (j := 8) (b := false) rfl rfl rfl eg, ?_⟩
      clear eg
      have e0 : a.tmps.getD 38 undef = .agg #[.int .i64 k, .int .i64 n, .string s] := hd 9 _ rfl rfl
      go_simp
      refine (HPR.out W (HGb.out.below (und hR) HGb.out.size)).mono ?_
      rintro e W2 ⟨rfl, hb2⟩
      exact ⟨_, rfl, rfl, belR_of hR (Nat.le_refl _) hb2⟩
    · intro a W hR hoff hd
      left
      have eg : a.tmps.getD 37 undef = .bool false := hd 8 _ rfl rfl
      refine ⟨wanted_of (ops := _) (j := 8) (b := false) rfl rfl rfl eg, ?_⟩
      clear eg
      have e0 : a.tmps.getD 3 undef = .pointer (some ⟨b + 1, 0, none⟩) := hoff.slot 3 (no_dst (by kernel_rfl))
      have c0 := (HWb.out.below (und hR) HWb.out.lt).c (j := 0) rfl
      have c1 := (HWb.out.below (und hR) HWb.out.lt).c (j := 1) rfl
      have c2 := (HWb.out.below (und hR) HWb.out.lt).c (j := 2) rfl
      go_simp
      exact ⟨_, rfl, rfl, Below.refl _ _⟩
    · intro a W hR hoff hd
      left
      have eg : a.tmps.getD 37 undef = .bool false := hd 8 _ rfl rfl
      refine ⟨wanted_of (ops := _) (j := 8) (b := false) rfl rfl rfl eg, ?_⟩
      clear eg
      have e0 : a.tmps.getD 40 undef = .agg #[.int .i64 k, .int .i64 n, .string s2] := hd 11 _ rfl rfl
      go_simp
      refine (HPW.out W (HGb.out.below (und hR) HGb.out.size)).mono ?_
      rintro e W2 ⟨rfl, hb2⟩
      exact ⟨_, rfl, rfl, belR_of hR (Nat.le_refl _) hb2⟩
    · intro a W hR hoff hd
      left
      have eg : a.tmps.getD 37 undef = .bool false := hd 8 _ rfl rfl
      refine ⟨wanted_of (ops := _) (j := 8) (b := false) rfl rfl rfl eg, ?_⟩
      clear eg
      have e0 : a.tmps.getD 39 undef = .string P := hd 10 _ rfl rfl
      have e1 : a.tmps.getD 41 undef = .string P2 := hd 12 _ rfl rfl
      go_simp
      first | exact ⟨_, rfl, rfl, Below.refl _ _⟩ | exact ⟨_, rfl, congrArg Value.bool (by assumption), Below.refl _ _⟩
    · intro a W hR hoff hd
      left
      have eg : a.tmps.getD 37 undef = .bool false := hd 8 _ rfl rfl
      refine ⟨wanted_of (ops := _) (j := 8) (b := false) rfl rfl rfl eg, ?_⟩
      clear eg
      have e0 : a.tmps.getD 2 undef = .pointer (some ⟨b, 0, none⟩) := hoff.slot 2 (no_dst (by kernel_rfl))
      have c0 := (HVb.out.below (und hR) HVb.out.lt).c (j := 0) rfl
      have c1 := (HVb.out.below (und hR) HVb.out.lt).c (j := 1) rfl
      have c2 := (HVb.out.below (und hR) HVb.out.lt).c (j := 2) rfl
      go_simp
      exact ⟨_, rfl, rfl, Below.refl _ _⟩
    · intro a W hR hoff hd
      left
      have eg : a.tmps.getD 37 undef = .bool false := hd 8 _ rfl rfl
      refine ⟨wanted_of (ops := _) (j := 8) (b := false) rfl rfl rfl eg, ?_⟩
      clear eg
      have e0 : a.tmps.getD 3 undef = .pointer (some ⟨b + 1, 0, none⟩) := hoff.slot 3 (no_dst (by kernel_rfl))
      have c0 := (HWb.out.below (und hR) HWb.out.lt).c (j := 0) rfl
      have c1 := (HWb.out.below (und hR) HWb.out.lt).c (j := 1) rfl
      have c2 := (HWb.out.below (und hR) HWb.out.lt).c (j := 2) rfl
      go_simp
      exact ⟨_, rfl, rfl, Below.refl _ _⟩
    · intro a W hR hoff hd
      left
      have eg : a.tmps.getD 37 undef = .bool false := hd 8 _ rfl rfl
      refine ⟨wanted_of (ops := _) (j := 8) (b := false) rfl rfl rfl eg, ?_⟩
      clear eg
      have e0 : a.tmps.getD 43 undef = .agg #[.int .i64 k, .int .i64 n, .string s] := hd 14 _ rfl rfl
      have e1 : a.tmps.getD 44 undef = .agg #[.int .i64 k, .int .i64 n, .string s2] := hd 15 _ rfl rfl
      go_simp
      first | exact ⟨_, rfl, rfl, Below.refl _ _⟩ | exact ⟨_, rfl, congrArg Value.bool (by assumption), Below.refl _ _⟩
    · intro a W hR hoff hd
      left
      have eg : a.tmps.getD 37 undef = .bool false := hd 8 _ rfl rfl
      refine ⟨wanted_of (ops := _) (j := 8) (b := false) rfl rfl rfl eg, ?_⟩
      clear eg
      have e0 : a.tmps.getD 42 undef = .bool false := hd 13 _ rfl rfl
      have e1 : a.tmps.getD 45 undef = .bool false := hd 16 _ rfl rfl
      go_simp
      first | exact ⟨_, rfl, rfl, Below.refl _ _⟩ | exact ⟨_, rfl, congrArg Value.bool (by assumption), Below.refl _ _⟩
    · intro a W hR hoff hd
      left
      refine ⟨rfl, ?_⟩
      have e0 : a.tmps.getD 37 undef = .bool false := hd 8 _ rfl rfl
      have e1 : a.tmps.getD 46 undef = .bool true := hd 17 _ rfl rfl
      go_simp
      exact ⟨_, rfl, rfl, Below.refl _ _⟩
    · intro a W hR hoff hd
      left
      refine ⟨rfl, ?_⟩
      have e0 : a.tmps.getD 47 undef = .bool true := hd 18 _ rfl rfl
      go_simp
      exact ⟨_, rfl, rfl, Below.refl _ _⟩
  · intro a W hR hoff hd
    have e4 : a.tmps.getD 4 undef = .bool true := hd 19 _ rfl
    rename_i hK
    refine hK _ _ ?_
    go_wp2
    refine bodyPost_ret (results_tmp rfl _ _ _) hoff.defers ⟨by rw [e4], ?_⟩
    rw [HBZ.out]
    exact HB4.out.trans (Below.mono (und hR) HSZ0.out)
theorem back_walk (w : World) (k n : Int) (s : ByteArray) (k2 n2 : Int) (s2 : ByteArray) (hn : In64 n) (hn2 : In64 n2) (hG : Glob w) :
    Calls Tryd.prog 5 #[.agg #[.int .i64 k, .int .i64 n, .string s], .agg #[.int .i64 k2, .int .i64 n2, .string s2]] w fun e w' => e = .returned (.bool true) ∧ Below w.heap.size w w' := by
  cases hm : mayV ⟨k, n, s⟩ with
  | false => exact back_F w k n s k2 n2 s2 hn hn2 hG hm
  | true =>
    cases hmw : mayV ⟨k2, n2, s2⟩ with
    | false => exact back_N w k n s k2 n2 s2 hn hn2 hG hm hmw
    | true =>
      by_cases h1 : k = k2
      · subst h1
        by_cases h2 : n = n2
        · subst h2
          by_cases h3 : s = s2
          · subst h3
            exact back_S w k n s k n s hn hn hG hm hm
          · exact back_T w k n s k n s2 hn hn hG hm hmw h3
        · exact back_M w k n s k n2 s2 hn hn2 hG hm hmw h2
      · exact back_K w k n s k2 n2 s2 hn hn2 hG hm hmw h1
end Go.Proofs.YtnmailhlncchmaaDoor
