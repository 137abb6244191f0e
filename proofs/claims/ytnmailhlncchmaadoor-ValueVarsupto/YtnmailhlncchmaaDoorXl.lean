/-
  What is proved: ValueMay answers true, whatever its input (its walk). Conditions: those in each statement.
-/
import Derived.Test.YtnmailhlncchmaaDoorXk
import Derived.Test.YtnmailhlncchmaaDoorSsa
namespace Go.Proofs.YtnmailhlncchmaaDoor
open Go.RowKit

theorem unwanted_of {ops : Array Oper} {o : Oper} {a : Act} {j : Nat} {b b2 : Bool} {p : Oper} {d : Tmp} (hg : o.guard = some (j, b)) (hp : ops[j]? = some p) (hd : p.dst = some d) (hb : b2 ≠ b) (h : a.tmps.getD d undef = .bool b2) : Region.wanted o (yielded ops a.tmps) = false := by
  have h' : a.tmps[d]? = some (.bool b2) := by
    cases hx : a.tmps[d]? with
    | none => simp [hx, undef] at h
    | some x => simp [hx] at h; rw [h]
  simp [Region.wanted, hg, yielded, hp, hd, h', hb]
theorem zero_same {kd : Int} (h : 0 ≤ kd) (h3 : kd ≤ 3) : zeroV kd = kd := by
  unfold zeroV; split
  · rfl
  · omega
theorem zero_other {kd : Int} (h : kd < 0 ∨ 3 < kd) : zeroV kd = 0 := by
  unfold zeroV; rw [if_neg (by omega)]
def belR (B : Nat) (w w' : World) : Prop := Below B w w'
theorem und {B : Nat} {w W : World} (h : belR B w.drew W) : Below B w W := (Below.drew (Below.refl B w)).trans h
theorem belR_trans {B : Nat} {a b c : World} (h : belR B a b) (k : belR B b c) : belR B a c := Below.trans h k
theorem belR_of {B : Nat} {w0 W W2 : World} (h : belR B w0 W) (hB : B ≤ w0.heap.size) (k : Below W.heap.size W W2) : belR B W W2 := k.mono (Nat.le_trans hB h.size)
theorem fld1 (x : Int) (W : World) : (Instr.field 23 (.agg #[.int .i64 x, .int .i64 0, .string ⟨#[]⟩]) 1).run Tryd.prog W = .ok (.int .i64 0) W := by
  simp [Instr.field, run_underlying Tryd.underlying23, part, asAgg, Tryd.isAgg23, Tryd.isAgg2, Tryd.isAgg3, Tryd.isAgg9, Tryd.sizeOf2, Tryd.sizeOf3, Tryd.sizeOf9, go_sem]
theorem fld2 (x : Int) (W : World) : (Instr.field 23 (.agg #[.int .i64 x, .int .i64 0, .string ⟨#[]⟩]) 2).run Tryd.prog W = .ok (.string ⟨#[]⟩) W := by
  simp [Instr.field, run_underlying Tryd.underlying23, part, asAgg, Tryd.isAgg23, Tryd.isAgg2, Tryd.isAgg3, Tryd.isAgg9, Tryd.sizeOf2, Tryd.sizeOf3, Tryd.sizeOf9, go_sem]
def mayA (mb : Bool) (P : ByteArray) (nb : Bool) (b : Nat) (k n : Int) (s nm : ByteArray) (kd : Int) : Nat → Value
  | 0 => .bool true
  | 1 => .bool true
  | 2 => .agg #[.int .i64 k, .int .i64 n, .string s]
  | 3 => .bool mb
  | 4 => .agg #[.int .i64 k, .int .i64 n, .string s]
  | 5 => .bool mb
  | 6 => .bool true
  | 7 => .bool true
  | 8 => .bool true
  | 9 => .agg #[.int .i64 k, .int .i64 n, .string s]
  | 10 => .string P
  | 11 => .agg #[.int .i64 k, .int .i64 n, .string s]
  | 12 => .string P
  | 13 => .bool true
  | 14 => .bool true
  | 15 => .bool true
  | 16 => .string nm
  | 17 => .bool nb
  | 18 => .string nm
  | 19 => .bool nb
  | 20 => .bool true
  | 21 => .bool true
  | 22 => .bool true
  | 23 => .int .i64 kd
  | 24 => .agg #[.int .i64 kd, .int .i64 0, .string ⟨#[]⟩]
  | 25 => .int .i64 kd
  | 26 => .agg #[.int .i64 kd, .int .i64 0, .string ⟨#[]⟩]
  | 27 => .bool true
  | 28 => .int .i64 kd
  | 29 => .bool true
  | 30 => .bool true
  | 31 => .int .i64 kd
  | 32 => .bool true
  | 33 => .bool true
  | 34 => .bool true
  | 35 => .bool true
  | 36 => .bool true
  | 37 => .int .i64 kd
  | 38 => .agg #[.int .i64 kd, .int .i64 0, .string ⟨#[]⟩]
  | 39 => .int .i64 0
  | 40 => .bool true
  | 41 => .bool true
  | 42 => .bool true
  | 43 => .int .i64 kd
  | 44 => .agg #[.int .i64 kd, .int .i64 0, .string ⟨#[]⟩]
  | 45 => .string ⟨#[]⟩
  | 46 => .bool true
  | 47 => .bool true
  | 48 => .bool true
  | _ => undef
set_option maxHeartbeats 16000000 in
set_option maxRecDepth 100000 in
theorem may_A (w : World) (k n : Int) (s : ByteArray) (kd : Int) (nm : ByteArray) (hn : In64 n) (hG : Glob w) (h0 : 0 ≤ kd) (h3 : kd ≤ 3) :
    Calls Tryd.prog 3 #[.agg #[.int .i64 k, .int .i64 n, .string s], .int .i64 kd, .string nm] w fun e w' => e = .returned (.bool true) ∧ Below w.heap.size w w' := by
  have HMA := Lib.hid (fun W => may_any W k n s)
  have HDM := Lib.hid (fun W => dMay_any W k n s)
  have HPR := Lib.hid (fun W hW => print_any W k n s hn hW)
  have HDP := Lib.hid (fun W => dPrint_any W k n s hn)
  have HNM := Lib.hid (fun W => name_any W nm)
  have HDN := Lib.hid (fun W => dName_any W nm)
  have HZ := Lib.hid (fun W => zero_any W kd)
  rw [zero_same h0 h3] at HZ
  generalize mayV ⟨k, n, s⟩ = mb at *
  generalize (⟨(prV ⟨k, n, s⟩).toArray⟩ : ByteArray) = P at *
  generalize nameB nm.data.toList = nb at *
  have HB0 : Hid (Below w.heap.size w (w.alloc (.cells #[.int .i64 k, .int .i64 n, .string s] 23 (0, 0)))) := Lib.hid ((Below.refl _ _).alloc (Nat.le_refl _) _)
  have HG : Hid (Glob (w.alloc (.cells #[.int .i64 k, .int .i64 n, .string s] 23 (0, 0)))) := Lib.hid (hG.below HB0.out hG.size)
  have HLT : Hid (w.heap.size < (w.alloc (.cells #[.int .i64 k, .int .i64 n, .string s] 23 (0, 0))).heap.size) := Lib.hid (by simp)
  have C0 : Hid ((w.alloc (.cells #[.int .i64 k, .int .i64 n, .string s] 23 (0, 0))).cell? ⟨w.heap.size, 0, none⟩ = some (.int .i64 k)) := Lib.hid (box_cell (Below.refl _ _) 0 rfl)
  have C1 : Hid ((w.alloc (.cells #[.int .i64 k, .int .i64 n, .string s] 23 (0, 0))).cell? ⟨w.heap.size, 1, none⟩ = some (.int .i64 n)) := Lib.hid (box_cell (Below.refl _ _) 1 rfl)
  have C2 : Hid ((w.alloc (.cells #[.int .i64 k, .int .i64 n, .string s] 23 (0, 0))).cell? ⟨w.heap.size, 2, none⟩ = some (.string s)) := Lib.hid (box_cell (Below.refl _ _) 2 rfl)
  clear hG hn
  go_enter Tryd.func3, Tryd.ntmps3
  go_wp2_with fail
  have HSZ0 := Lib.hid HB0.out.size
  generalize w.alloc (.cells #[.int .i64 k, .int .i64 n, .string s] 23 (0, 0)) = W0 at *
  generalize hbz : w.heap.size = b at *
  have HBZ := Lib.hid hbz
  clear hbz
  refine wp_region_steps (fun i v _ => v = mayA mb P nb b k n s nm kd i) (belR W0.heap.size) (by kernel_rfl) (by kernel_rfl) (fun _ => Below.refl _ _) (fun _ _ _ h k => belR_trans h k) (fun _ _ _ _ h _ => h) ?_ ?_
  · refine ⟨?_, ?_, ?_, ?_, ?_, ?_, ?_, ?_, ?_, ?_, ?_, ?_, ?_, ?_, ?_, ?_, ?_, ?_, ?_, ?_, ?_, ?_, ?_, ?_, ?_, ?_, ?_, ?_, ?_, ?_, ?_, ?_, ?_, ?_, ?_, ?_, ?_, ?_, ?_, ?_, ?_, ?_, ?_, ?_, ?_, ?_, ?_, ?_, ?_, trivial⟩
    · intro a W hR hoff hd
      left
      refine ⟨rfl, ?_⟩
      go_simp
      refine (awake_any W (HG.out.below (und hR) HG.out.size)).mono ?_
      rintro e W2 ⟨rfl, hb2⟩
      exact ⟨_, rfl, rfl, belR_of hR (Nat.le_refl _) hb2⟩
    · intro a W hR hoff hd
      left
      refine ⟨rfl, ?_⟩
      have e0 : a.tmps.getD 7 undef = .bool true := hd 0 _ rfl rfl
      go_simp
      exact ⟨_, rfl, rfl, Below.refl _ _⟩
    · intro a W hR hoff hd
      left
      have eg : a.tmps.getD 8 undef = .bool true := hd 1 _ rfl rfl
      refine ⟨wanted_of (ops := _) (j := 1) (b := true) rfl rfl rfl eg, ?_⟩
      clear eg
      have e0 : a.tmps.getD 3 undef = .pointer (some ⟨b, 0, none⟩) := hoff.slot 3 (no_dst (by kernel_rfl))
      have c0 := cell_in (und hR) HLT.out C0.out
      have c1 := cell_in (und hR) HLT.out C1.out
      have c2 := cell_in (und hR) HLT.out C2.out
      go_simp
      exact ⟨_, rfl, rfl, Below.refl _ _⟩
    · intro a W hR hoff hd
      left
      have eg : a.tmps.getD 8 undef = .bool true := hd 1 _ rfl rfl
      refine ⟨wanted_of (ops := _) (j := 1) (b := true) rfl rfl rfl eg, ?_⟩
      clear eg
      have e0 : a.tmps.getD 9 undef = .agg #[.int .i64 k, .int .i64 n, .string s] := hd 2 _ rfl rfl
      go_simp
      refine (HMA.out W).mono ?_
      rintro e W2 ⟨rfl, hb2⟩
      exact ⟨_, rfl, rfl, belR_of hR (Nat.le_refl _) hb2⟩
    · intro a W hR hoff hd
      left
      have eg : a.tmps.getD 8 undef = .bool true := hd 1 _ rfl rfl
      refine ⟨wanted_of (ops := _) (j := 1) (b := true) rfl rfl rfl eg, ?_⟩
      clear eg
      have e0 : a.tmps.getD 3 undef = .pointer (some ⟨b, 0, none⟩) := hoff.slot 3 (no_dst (by kernel_rfl))
      have c0 := cell_in (und hR) HLT.out C0.out
      have c1 := cell_in (und hR) HLT.out C1.out
      have c2 := cell_in (und hR) HLT.out C2.out
      go_simp
      exact ⟨_, rfl, rfl, Below.refl _ _⟩
    · intro a W hR hoff hd
      left
      have eg : a.tmps.getD 8 undef = .bool true := hd 1 _ rfl rfl
      refine ⟨wanted_of (ops := _) (j := 1) (b := true) rfl rfl rfl eg, ?_⟩
      clear eg
      have e0 : a.tmps.getD 11 undef = .agg #[.int .i64 k, .int .i64 n, .string s] := hd 4 _ rfl rfl
      go_simp
      refine (HDM.out W).mono ?_
      rintro e W2 ⟨rfl, hb2⟩
      exact ⟨_, rfl, rfl, belR_of hR (Nat.le_refl _) hb2⟩
    · intro a W hR hoff hd
      left
      have eg : a.tmps.getD 8 undef = .bool true := hd 1 _ rfl rfl
      refine ⟨wanted_of (ops := _) (j := 1) (b := true) rfl rfl rfl eg, ?_⟩
      clear eg
      have e0 : a.tmps.getD 10 undef = .bool mb := hd 3 _ rfl rfl
      have e1 : a.tmps.getD 12 undef = .bool mb := hd 5 _ rfl rfl
      go_simp
      first | exact ⟨_, rfl, rfl, Below.refl _ _⟩ | exact ⟨_, rfl, congrArg Value.bool (by assumption), Below.refl _ _⟩
    · intro a W hR hoff hd
      left
      refine ⟨rfl, ?_⟩
      have e0 : a.tmps.getD 8 undef = .bool true := hd 1 _ rfl rfl
      have e1 : a.tmps.getD 13 undef = .bool true := hd 6 _ rfl rfl
      go_simp
      exact ⟨_, rfl, rfl, Below.refl _ _⟩
    · intro a W hR hoff hd
      left
      refine ⟨rfl, ?_⟩
      have e0 : a.tmps.getD 14 undef = .bool true := hd 7 _ rfl rfl
      go_simp
      exact ⟨_, rfl, rfl, Below.refl _ _⟩
    · intro a W hR hoff hd
      left
      have eg : a.tmps.getD 15 undef = .bool true := hd 8 _ rfl rfl
      refine ⟨wanted_of (ops := _) (j := 8) (b := true) rfl rfl rfl eg, ?_⟩
      clear eg
      have e0 : a.tmps.getD 3 undef = .pointer (some ⟨b, 0, none⟩) := hoff.slot 3 (no_dst (by kernel_rfl))
      have c0 := cell_in (und hR) HLT.out C0.out
      have c1 := cell_in (und hR) HLT.out C1.out
      have c2 := cell_in (und hR) HLT.out C2.out
      go_simp
      exact ⟨_, rfl, rfl, Below.refl _ _⟩
    · intro a W hR hoff hd
      left
      have eg : a.tmps.getD 15 undef = .bool true := hd 8 _ rfl rfl
      refine ⟨wanted_of (ops := _) (j := 8) (b := true) rfl rfl rfl eg, ?_⟩
      clear eg
      have e0 : a.tmps.getD 16 undef = .agg #[.int .i64 k, .int .i64 n, .string s] := hd 9 _ rfl rfl
      go_simp
      refine (HPR.out W (HG.out.below (und hR) HG.out.size)).mono ?_
      rintro e W2 ⟨rfl, hb2⟩
      exact ⟨_, rfl, rfl, belR_of hR (Nat.le_refl _) hb2⟩
    · intro a W hR hoff hd
      left
      have eg : a.tmps.getD 15 undef = .bool true := hd 8 _ rfl rfl
      refine ⟨wanted_of (ops := _) (j := 8) (b := true) rfl rfl rfl eg, ?_⟩
      clear eg
      have e0 : a.tmps.getD 3 undef = .pointer (some ⟨b, 0, none⟩) := hoff.slot 3 (no_dst (by kernel_rfl))
      have c0 := cell_in (und hR) HLT.out C0.out
      have c1 := cell_in (und hR) HLT.out C1.out
      have c2 := cell_in (und hR) HLT.out C2.out
      go_simp
      exact ⟨_, rfl, rfl, Below.refl _ _⟩
    · intro a W hR hoff hd
      left
      have eg : a.tmps.getD 15 undef = .bool true := hd 8 _ rfl rfl
      refine ⟨wanted_of (ops := _) (j := 8) (b := true) rfl rfl rfl eg, ?_⟩
      clear eg
      have e0 : a.tmps.getD 18 undef = .agg #[.int .i64 k, .int .i64 n, .string s] := hd 11 _ rfl rfl
      go_simp
      refine (HDP.out W).mono ?_
      rintro e W2 ⟨rfl, hb2⟩
      exact ⟨_, rfl, rfl, belR_of hR (Nat.le_refl _) hb2⟩
    · intro a W hR hoff hd
      left
      have eg : a.tmps.getD 15 undef = .bool true := hd 8 _ rfl rfl
      refine ⟨wanted_of (ops := _) (j := 8) (b := true) rfl rfl rfl eg, ?_⟩
      clear eg
      have e0 : a.tmps.getD 17 undef = .string P := hd 10 _ rfl rfl
      have e1 : a.tmps.getD 19 undef = .string P := hd 12 _ rfl rfl
      go_simp
      first | exact ⟨_, rfl, rfl, Below.refl _ _⟩ | exact ⟨_, rfl, congrArg Value.bool (by assumption), Below.refl _ _⟩
    · intro a W hR hoff hd
      left
      refine ⟨rfl, ?_⟩
      have e0 : a.tmps.getD 15 undef = .bool true := hd 8 _ rfl rfl
      have e1 : a.tmps.getD 20 undef = .bool true := hd 13 _ rfl rfl
      go_simp
      exact ⟨_, rfl, rfl, Below.refl _ _⟩
    · intro a W hR hoff hd
      left
      refine ⟨rfl, ?_⟩
      have e0 : a.tmps.getD 21 undef = .bool true := hd 14 _ rfl rfl
      go_simp
      exact ⟨_, rfl, rfl, Below.refl _ _⟩
    · intro a W hR hoff hd
      left
      have eg : a.tmps.getD 22 undef = .bool true := hd 15 _ rfl rfl
      refine ⟨wanted_of (ops := _) (j := 15) (b := true) rfl rfl rfl eg, ?_⟩
      clear eg
      have e0 : a.tmps.getD 2 undef = .string nm := hoff.slot 2 (no_dst (by kernel_rfl))
      go_simp
      exact ⟨_, rfl, rfl, Below.refl _ _⟩
    · intro a W hR hoff hd
      left
      have eg : a.tmps.getD 22 undef = .bool true := hd 15 _ rfl rfl
      refine ⟨wanted_of (ops := _) (j := 15) (b := true) rfl rfl rfl eg, ?_⟩
      clear eg
      have e0 : a.tmps.getD 23 undef = .string nm := hd 16 _ rfl rfl
      go_simp
      refine (HNM.out W).mono ?_
      rintro e W2 ⟨rfl, rfl⟩
      exact ⟨_, rfl, rfl, Below.refl _ _⟩
    · intro a W hR hoff hd
      left
      have eg : a.tmps.getD 22 undef = .bool true := hd 15 _ rfl rfl
      refine ⟨wanted_of (ops := _) (j := 15) (b := true) rfl rfl rfl eg, ?_⟩
      clear eg
      have e0 : a.tmps.getD 2 undef = .string nm := hoff.slot 2 (no_dst (by kernel_rfl))
      go_simp
      exact ⟨_, rfl, rfl, Below.refl _ _⟩
    · intro a W hR hoff hd
      left
      have eg : a.tmps.getD 22 undef = .bool true := hd 15 _ rfl rfl
      refine ⟨wanted_of (ops := _) (j := 15) (b := true) rfl rfl rfl eg, ?_⟩
      clear eg
      have e0 : a.tmps.getD 25 undef = .string nm := hd 18 _ rfl rfl
      go_simp
      refine (HDN.out W).mono ?_
      rintro e W2 ⟨rfl, rfl⟩
      exact ⟨_, rfl, rfl, Below.refl _ _⟩
    · intro a W hR hoff hd
      left
      have eg : a.tmps.getD 22 undef = .bool true := hd 15 _ rfl rfl
      refine ⟨wanted_of (ops := _) (j := 15) (b := true) rfl rfl rfl eg, ?_⟩
      clear eg
      have e0 : a.tmps.getD 24 undef = .bool nb := hd 17 _ rfl rfl
      have e1 : a.tmps.getD 26 undef = .bool nb := hd 19 _ rfl rfl
      go_simp
      first | exact ⟨_, rfl, rfl, Below.refl _ _⟩ | exact ⟨_, rfl, congrArg Value.bool (by assumption), Below.refl _ _⟩
    · intro a W hR hoff hd
      left
      refine ⟨rfl, ?_⟩
      have e0 : a.tmps.getD 22 undef = .bool true := hd 15 _ rfl rfl
      have e1 : a.tmps.getD 27 undef = .bool true := hd 20 _ rfl rfl
      go_simp
      exact ⟨_, rfl, rfl, Below.refl _ _⟩
    · intro a W hR hoff hd
      left
      refine ⟨rfl, ?_⟩
      have e0 : a.tmps.getD 28 undef = .bool true := hd 21 _ rfl rfl
      go_simp
      exact ⟨_, rfl, rfl, Below.refl _ _⟩
    · intro a W hR hoff hd
      left
      have eg : a.tmps.getD 29 undef = .bool true := hd 22 _ rfl rfl
      refine ⟨wanted_of (ops := _) (j := 22) (b := true) rfl rfl rfl eg, ?_⟩
      clear eg
      have e0 : a.tmps.getD 1 undef = .int .i64 kd := hoff.slot 1 (no_dst (by kernel_rfl))
      go_simp
      exact ⟨_, rfl, rfl, Below.refl _ _⟩
    · intro a W hR hoff hd
      left
      have eg : a.tmps.getD 29 undef = .bool true := hd 22 _ rfl rfl
      refine ⟨wanted_of (ops := _) (j := 22) (b := true) rfl rfl rfl eg, ?_⟩
      clear eg
      have e0 : a.tmps.getD 30 undef = .int .i64 kd := hd 23 _ rfl rfl
      go_simp
      refine (HZ.out W).mono ?_
      rintro e W2 ⟨rfl, hb2⟩
      exact ⟨_, rfl, rfl, belR_of hR (Nat.le_refl _) hb2⟩
    · intro a W hR hoff hd
      left
      have eg : a.tmps.getD 29 undef = .bool true := hd 22 _ rfl rfl
      refine ⟨wanted_of (ops := _) (j := 22) (b := true) rfl rfl rfl eg, ?_⟩
      clear eg
      have e0 : a.tmps.getD 1 undef = .int .i64 kd := hoff.slot 1 (no_dst (by kernel_rfl))
      go_simp
      exact ⟨_, rfl, rfl, Below.refl _ _⟩
    · intro a W hR hoff hd
      left
      have eg : a.tmps.getD 29 undef = .bool true := hd 22 _ rfl rfl
      refine ⟨wanted_of (ops := _) (j := 22) (b := true) rfl rfl rfl eg, ?_⟩
      clear eg
      have e0 : a.tmps.getD 32 undef = .int .i64 kd := hd 25 _ rfl rfl
      have e0' : a.tmps[32]?.getD undef = .int .i64 kd := by simpa using e0
      go_simp
      exact ⟨_, rfl, rfl, Below.refl _ _⟩
    · intro a W hR hoff hd
      left
      have eg : a.tmps.getD 29 undef = .bool true := hd 22 _ rfl rfl
      refine ⟨wanted_of (ops := _) (j := 22) (b := true) rfl rfl rfl eg, ?_⟩
      clear eg
      have e0 : a.tmps.getD 31 undef = .agg #[.int .i64 kd, .int .i64 0, .string ⟨#[]⟩] := hd 24 _ rfl rfl
      have e1 : a.tmps.getD 33 undef = .agg #[.int .i64 kd, .int .i64 0, .string ⟨#[]⟩] := hd 26 _ rfl rfl
      go_simp
      first | exact ⟨_, rfl, rfl, Below.refl _ _⟩ | exact ⟨_, rfl, congrArg Value.bool (by assumption), Below.refl _ _⟩
    · intro a W hR hoff hd
      left
      have eg : a.tmps.getD 29 undef = .bool true := hd 22 _ rfl rfl
      refine ⟨wanted_of (ops := _) (j := 22) (b := true) rfl rfl rfl eg, ?_⟩
      clear eg
      have e0 : a.tmps.getD 1 undef = .int .i64 kd := hoff.slot 1 (no_dst (by kernel_rfl))
      go_simp
      exact ⟨_, rfl, rfl, Below.refl _ _⟩
    · intro a W hR hoff hd
      left
      have eg : a.tmps.getD 29 undef = .bool true := hd 22 _ rfl rfl
      refine ⟨wanted_of (ops := _) (j := 22) (b := true) rfl rfl rfl eg, ?_⟩
      clear eg
      have e0 : a.tmps.getD 35 undef = .int .i64 kd := hd 28 _ rfl rfl
      go_simp
      first | exact ⟨_, rfl, rfl, Below.refl _ _⟩ | exact ⟨_, rfl, congrArg Value.bool (by assumption), Below.refl _ _⟩
    · intro a W hR hoff hd
      left
      have eg : a.tmps.getD 29 undef = .bool true := hd 22 _ rfl rfl
      refine ⟨wanted_of (ops := _) (j := 22) (b := true) rfl rfl rfl eg, ?_⟩
      clear eg
      have e0 : a.tmps.getD 36 undef = .bool true := hd 29 _ rfl rfl
      go_simp
      exact ⟨_, rfl, rfl, Below.refl _ _⟩
    · intro a W hR hoff hd
      left
      have eg : a.tmps.getD 37 undef = .bool true := hd 30 _ rfl rfl
      refine ⟨wanted_of (ops := _) (j := 30) (b := true) rfl rfl rfl eg, ?_⟩
      clear eg
      have e0 : a.tmps.getD 1 undef = .int .i64 kd := hoff.slot 1 (no_dst (by kernel_rfl))
      go_simp
      exact ⟨_, rfl, rfl, Below.refl _ _⟩
    · intro a W hR hoff hd
      left
      have eg : a.tmps.getD 37 undef = .bool true := hd 30 _ rfl rfl
      refine ⟨wanted_of (ops := _) (j := 30) (b := true) rfl rfl rfl eg, ?_⟩
      clear eg
      have e0 : a.tmps.getD 38 undef = .int .i64 kd := hd 31 _ rfl rfl
      go_simp
      first | exact ⟨_, rfl, rfl, Below.refl _ _⟩ | exact ⟨_, rfl, congrArg Value.bool (by assumption), Below.refl _ _⟩
    · intro a W hR hoff hd
      left
      have eg : a.tmps.getD 29 undef = .bool true := hd 22 _ rfl rfl
      refine ⟨wanted_of (ops := _) (j := 22) (b := true) rfl rfl rfl eg, ?_⟩
      clear eg
      have e0 : a.tmps.getD 37 undef = .bool true := hd 30 _ rfl rfl
      have e1 : a.tmps.getD 39 undef = .bool true := hd 32 _ rfl rfl
      go_simp
      exact ⟨_, rfl, rfl, Below.refl _ _⟩
    · intro a W hR hoff hd
      left
      have eg : a.tmps.getD 29 undef = .bool true := hd 22 _ rfl rfl
      refine ⟨wanted_of (ops := _) (j := 22) (b := true) rfl rfl rfl eg, ?_⟩
      clear eg
      have e0 : a.tmps.getD 34 undef = .bool true := hd 27 _ rfl rfl
      have e1 : a.tmps.getD 40 undef = .bool true := hd 33 _ rfl rfl
      go_simp
      first | exact ⟨_, rfl, rfl, Below.refl _ _⟩ | exact ⟨_, rfl, congrArg Value.bool (by assumption), Below.refl _ _⟩
    · intro a W hR hoff hd
      left
      refine ⟨rfl, ?_⟩
      have e0 : a.tmps.getD 29 undef = .bool true := hd 22 _ rfl rfl
      have e1 : a.tmps.getD 41 undef = .bool true := hd 34 _ rfl rfl
      go_simp
      exact ⟨_, rfl, rfl, Below.refl _ _⟩
    · intro a W hR hoff hd
      left
      refine ⟨rfl, ?_⟩
      have e0 : a.tmps.getD 42 undef = .bool true := hd 35 _ rfl rfl
      go_simp
      exact ⟨_, rfl, rfl, Below.refl _ _⟩
    · intro a W hR hoff hd
      left
      have eg : a.tmps.getD 43 undef = .bool true := hd 36 _ rfl rfl
      refine ⟨wanted_of (ops := _) (j := 36) (b := true) rfl rfl rfl eg, ?_⟩
      clear eg
      have e0 : a.tmps.getD 1 undef = .int .i64 kd := hoff.slot 1 (no_dst (by kernel_rfl))
      go_simp
      exact ⟨_, rfl, rfl, Below.refl _ _⟩
    · intro a W hR hoff hd
      left
      have eg : a.tmps.getD 43 undef = .bool true := hd 36 _ rfl rfl
      refine ⟨wanted_of (ops := _) (j := 36) (b := true) rfl rfl rfl eg, ?_⟩
      clear eg
      have e0 : a.tmps.getD 44 undef = .int .i64 kd := hd 37 _ rfl rfl
      go_simp
      refine (HZ.out W).mono ?_
      rintro e W2 ⟨rfl, hb2⟩
      exact ⟨_, rfl, rfl, belR_of hR (Nat.le_refl _) hb2⟩
    · intro a W hR hoff hd
      left
      have eg : a.tmps.getD 43 undef = .bool true := hd 36 _ rfl rfl
      refine ⟨wanted_of (ops := _) (j := 36) (b := true) rfl rfl rfl eg, ?_⟩
      clear eg
      have e0 : a.tmps.getD 45 undef = .agg #[.int .i64 kd, .int .i64 0, .string ⟨#[]⟩] := hd 38 _ rfl rfl
      have hf := fld1 kd W
      go_simp
      exact ⟨_, rfl, rfl, Below.refl _ _⟩
    · intro a W hR hoff hd
      left
      have eg : a.tmps.getD 43 undef = .bool true := hd 36 _ rfl rfl
      refine ⟨wanted_of (ops := _) (j := 36) (b := true) rfl rfl rfl eg, ?_⟩
      clear eg
      have e0 : a.tmps.getD 46 undef = .int .i64 0 := hd 39 _ rfl rfl
      go_simp
      first | exact ⟨_, rfl, rfl, Below.refl _ _⟩ | exact ⟨_, rfl, congrArg Value.bool (by assumption), Below.refl _ _⟩
    · intro a W hR hoff hd
      left
      refine ⟨rfl, ?_⟩
      have e0 : a.tmps.getD 43 undef = .bool true := hd 36 _ rfl rfl
      have e1 : a.tmps.getD 47 undef = .bool true := hd 40 _ rfl rfl
      go_simp
      exact ⟨_, rfl, rfl, Below.refl _ _⟩
    · intro a W hR hoff hd
      left
      refine ⟨rfl, ?_⟩
      have e0 : a.tmps.getD 48 undef = .bool true := hd 41 _ rfl rfl
      go_simp
      exact ⟨_, rfl, rfl, Below.refl _ _⟩
    · intro a W hR hoff hd
      left
      have eg : a.tmps.getD 49 undef = .bool true := hd 42 _ rfl rfl
      refine ⟨wanted_of (ops := _) (j := 42) (b := true) rfl rfl rfl eg, ?_⟩
      clear eg
      have e0 : a.tmps.getD 1 undef = .int .i64 kd := hoff.slot 1 (no_dst (by kernel_rfl))
      go_simp
      exact ⟨_, rfl, rfl, Below.refl _ _⟩
    · intro a W hR hoff hd
      left
      have eg : a.tmps.getD 49 undef = .bool true := hd 42 _ rfl rfl
      refine ⟨wanted_of (ops := _) (j := 42) (b := true) rfl rfl rfl eg, ?_⟩
      clear eg
      have e0 : a.tmps.getD 50 undef = .int .i64 kd := hd 43 _ rfl rfl
      go_simp
      refine (HZ.out W).mono ?_
      rintro e W2 ⟨rfl, hb2⟩
      exact ⟨_, rfl, rfl, belR_of hR (Nat.le_refl _) hb2⟩
    · intro a W hR hoff hd
      left
      have eg : a.tmps.getD 49 undef = .bool true := hd 42 _ rfl rfl
      refine ⟨wanted_of (ops := _) (j := 42) (b := true) rfl rfl rfl eg, ?_⟩
      clear eg
      have e0 : a.tmps.getD 51 undef = .agg #[.int .i64 kd, .int .i64 0, .string ⟨#[]⟩] := hd 44 _ rfl rfl
      have hf := fld2 kd W
      go_simp
      exact ⟨_, rfl, rfl, Below.refl _ _⟩
    · intro a W hR hoff hd
      left
      have eg : a.tmps.getD 49 undef = .bool true := hd 42 _ rfl rfl
      refine ⟨wanted_of (ops := _) (j := 42) (b := true) rfl rfl rfl eg, ?_⟩
      clear eg
      have e0 : a.tmps.getD 52 undef = .string ⟨#[]⟩ := hd 45 _ rfl rfl
      go_simp
      first | exact ⟨_, rfl, rfl, Below.refl _ _⟩ | exact ⟨_, rfl, congrArg Value.bool (by assumption), Below.refl _ _⟩
    · intro a W hR hoff hd
      left
      refine ⟨rfl, ?_⟩
      have e0 : a.tmps.getD 49 undef = .bool true := hd 42 _ rfl rfl
      have e1 : a.tmps.getD 53 undef = .bool true := hd 46 _ rfl rfl
      go_simp
      exact ⟨_, rfl, rfl, Below.refl _ _⟩
    · intro a W hR hoff hd
      left
      refine ⟨rfl, ?_⟩
      have e0 : a.tmps.getD 54 undef = .bool true := hd 47 _ rfl rfl
      go_simp
      exact ⟨_, rfl, rfl, Below.refl _ _⟩
  · intro a W hR hoff hd
    have e6 : a.tmps.getD 6 undef = .bool true := hd 48 _ rfl
    rename_i hK
    refine hK _ _ ?_
    go_wp2
    refine bodyPost_ret (results_tmp rfl _ _ _) hoff.defers ⟨by rw [e6], ?_⟩
    rw [HBZ.out]
    exact HB0.out.trans (Below.mono (und hR) HSZ0.out)
def mayB (mb : Bool) (P : ByteArray) (nb : Bool) (b : Nat) (k n : Int) (s nm : ByteArray) (kd : Int) : Nat → Value
  | 0 => .bool true
  | 1 => .bool true
  | 2 => .agg #[.int .i64 k, .int .i64 n, .string s]
  | 3 => .bool mb
  | 4 => .agg #[.int .i64 k, .int .i64 n, .string s]
  | 5 => .bool mb
  | 6 => .bool true
  | 7 => .bool true
  | 8 => .bool true
  | 9 => .agg #[.int .i64 k, .int .i64 n, .string s]
  | 10 => .string P
  | 11 => .agg #[.int .i64 k, .int .i64 n, .string s]
  | 12 => .string P
  | 13 => .bool true
  | 14 => .bool true
  | 15 => .bool true
  | 16 => .string nm
  | 17 => .bool nb
  | 18 => .string nm
  | 19 => .bool nb
  | 20 => .bool true
  | 21 => .bool true
  | 22 => .bool true
  | 23 => .int .i64 kd
  | 24 => .agg #[.int .i64 0, .int .i64 0, .string ⟨#[]⟩]
  | 25 => .int .i64 kd
  | 26 => .agg #[.int .i64 kd, .int .i64 0, .string ⟨#[]⟩]
  | 27 => .bool false
  | 28 => .int .i64 kd
  | 29 => .bool true
  | 30 => .bool true
  | 31 => .int .i64 kd
  | 32 => .bool false
  | 33 => .bool false
  | 34 => .bool true
  | 35 => .bool true
  | 36 => .bool true
  | 37 => .int .i64 kd
  | 38 => .agg #[.int .i64 0, .int .i64 0, .string ⟨#[]⟩]
  | 39 => .int .i64 0
  | 40 => .bool true
  | 41 => .bool true
  | 42 => .bool true
  | 43 => .int .i64 kd
  | 44 => .agg #[.int .i64 0, .int .i64 0, .string ⟨#[]⟩]
  | 45 => .string ⟨#[]⟩
  | 46 => .bool true
  | 47 => .bool true
  | 48 => .bool true
  | _ => undef
set_option maxHeartbeats 16000000 in
set_option maxRecDepth 100000 in
theorem may_B (w : World) (k n : Int) (s : ByteArray) (kd : Int) (nm : ByteArray) (hn : In64 n) (hG : Glob w) (h3 : 3 < kd) :
    Calls Tryd.prog 3 #[.agg #[.int .i64 k, .int .i64 n, .string s], .int .i64 kd, .string nm] w fun e w' => e = .returned (.bool true) ∧ Below w.heap.size w w' := by
  have HMA := Lib.hid (fun W => may_any W k n s)
  have HDM := Lib.hid (fun W => dMay_any W k n s)
  have HPR := Lib.hid (fun W hW => print_any W k n s hn hW)
  have HDP := Lib.hid (fun W => dPrint_any W k n s hn)
  have HNM := Lib.hid (fun W => name_any W nm)
  have HDN := Lib.hid (fun W => dName_any W nm)
  have HZ := Lib.hid (fun W => zero_any W kd)
  rw [zero_other (.inr h3)] at HZ
  have q1 : ((0 : Int) == kd) = false := beq_eq_false_iff_ne.2 (by omega)
  have q2 : decide (kd ≤ 3) = false := decide_eq_false (by omega)
  have q3 : (0 : Int) ≤ kd := by omega
  generalize mayV ⟨k, n, s⟩ = mb at *
  generalize (⟨(prV ⟨k, n, s⟩).toArray⟩ : ByteArray) = P at *
  generalize nameB nm.data.toList = nb at *
  have HB0 : Hid (Below w.heap.size w (w.alloc (.cells #[.int .i64 k, .int .i64 n, .string s] 23 (0, 0)))) := Lib.hid ((Below.refl _ _).alloc (Nat.le_refl _) _)
  have HG : Hid (Glob (w.alloc (.cells #[.int .i64 k, .int .i64 n, .string s] 23 (0, 0)))) := Lib.hid (hG.below HB0.out hG.size)
  have HLT : Hid (w.heap.size < (w.alloc (.cells #[.int .i64 k, .int .i64 n, .string s] 23 (0, 0))).heap.size) := Lib.hid (by simp)
  have C0 : Hid ((w.alloc (.cells #[.int .i64 k, .int .i64 n, .string s] 23 (0, 0))).cell? ⟨w.heap.size, 0, none⟩ = some (.int .i64 k)) := Lib.hid (box_cell (Below.refl _ _) 0 rfl)
  have C1 : Hid ((w.alloc (.cells #[.int .i64 k, .int .i64 n, .string s] 23 (0, 0))).cell? ⟨w.heap.size, 1, none⟩ = some (.int .i64 n)) := Lib.hid (box_cell (Below.refl _ _) 1 rfl)
  have C2 : Hid ((w.alloc (.cells #[.int .i64 k, .int .i64 n, .string s] 23 (0, 0))).cell? ⟨w.heap.size, 2, none⟩ = some (.string s)) := Lib.hid (box_cell (Below.refl _ _) 2 rfl)
  clear hG hn
  go_enter Tryd.func3, Tryd.ntmps3
  go_wp2_with fail
  have HSZ0 := Lib.hid HB0.out.size
  generalize w.alloc (.cells #[.int .i64 k, .int .i64 n, .string s] 23 (0, 0)) = W0 at *
  generalize hbz : w.heap.size = b at *
  have HBZ := Lib.hid hbz
  clear hbz
  refine wp_region_steps (fun i v _ => v = mayB mb P nb b k n s nm kd i) (belR W0.heap.size) (by kernel_rfl) (by kernel_rfl) (fun _ => Below.refl _ _) (fun _ _ _ h k => belR_trans h k) (fun _ _ _ _ h _ => h) ?_ ?_
  · refine ⟨?_, ?_, ?_, ?_, ?_, ?_, ?_, ?_, ?_, ?_, ?_, ?_, ?_, ?_, ?_, ?_, ?_, ?_, ?_, ?_, ?_, ?_, ?_, ?_, ?_, ?_, ?_, ?_, ?_, ?_, ?_, ?_, ?_, ?_, ?_, ?_, ?_, ?_, ?_, ?_, ?_, ?_, ?_, ?_, ?_, ?_, ?_, ?_, ?_, trivial⟩
    · intro a W hR hoff hd
      left
      refine ⟨rfl, ?_⟩
      go_simp
      refine (awake_any W (HG.out.below (und hR) HG.out.size)).mono ?_
      rintro e W2 ⟨rfl, hb2⟩
      exact ⟨_, rfl, rfl, belR_of hR (Nat.le_refl _) hb2⟩
    · intro a W hR hoff hd
      left
      refine ⟨rfl, ?_⟩
      have e0 : a.tmps.getD 7 undef = .bool true := hd 0 _ rfl rfl
      go_simp
      exact ⟨_, rfl, rfl, Below.refl _ _⟩
    · intro a W hR hoff hd
      left
      have eg : a.tmps.getD 8 undef = .bool true := hd 1 _ rfl rfl
      refine ⟨wanted_of (ops := _) (j := 1) (b := true) rfl rfl rfl eg, ?_⟩
      clear eg
      have e0 : a.tmps.getD 3 undef = .pointer (some ⟨b, 0, none⟩) := hoff.slot 3 (no_dst (by kernel_rfl))
      have c0 := cell_in (und hR) HLT.out C0.out
      have c1 := cell_in (und hR) HLT.out C1.out
      have c2 := cell_in (und hR) HLT.out C2.out
      go_simp
      exact ⟨_, rfl, rfl, Below.refl _ _⟩
    · intro a W hR hoff hd
      left
      have eg : a.tmps.getD 8 undef = .bool true := hd 1 _ rfl rfl
      refine ⟨wanted_of (ops := _) (j := 1) (b := true) rfl rfl rfl eg, ?_⟩
      clear eg
      have e0 : a.tmps.getD 9 undef = .agg #[.int .i64 k, .int .i64 n, .string s] := hd 2 _ rfl rfl
      go_simp
      refine (HMA.out W).mono ?_
      rintro e W2 ⟨rfl, hb2⟩
      exact ⟨_, rfl, rfl, belR_of hR (Nat.le_refl _) hb2⟩
    · intro a W hR hoff hd
      left
      have eg : a.tmps.getD 8 undef = .bool true := hd 1 _ rfl rfl
      refine ⟨wanted_of (ops := _) (j := 1) (b := true) rfl rfl rfl eg, ?_⟩
      clear eg
      have e0 : a.tmps.getD 3 undef = .pointer (some ⟨b, 0, none⟩) := hoff.slot 3 (no_dst (by kernel_rfl))
      have c0 := cell_in (und hR) HLT.out C0.out
      have c1 := cell_in (und hR) HLT.out C1.out
      have c2 := cell_in (und hR) HLT.out C2.out
      go_simp
      exact ⟨_, rfl, rfl, Below.refl _ _⟩
    · intro a W hR hoff hd
      left
      have eg : a.tmps.getD 8 undef = .bool true := hd 1 _ rfl rfl
      refine ⟨wanted_of (ops := _) (j := 1) (b := true) rfl rfl rfl eg, ?_⟩
      clear eg
      have e0 : a.tmps.getD 11 undef = .agg #[.int .i64 k, .int .i64 n, .string s] := hd 4 _ rfl rfl
      go_simp
      refine (HDM.out W).mono ?_
      rintro e W2 ⟨rfl, hb2⟩
      exact ⟨_, rfl, rfl, belR_of hR (Nat.le_refl _) hb2⟩
    · intro a W hR hoff hd
      left
      have eg : a.tmps.getD 8 undef = .bool true := hd 1 _ rfl rfl
      refine ⟨wanted_of (ops := _) (j := 1) (b := true) rfl rfl rfl eg, ?_⟩
      clear eg
      have e0 : a.tmps.getD 10 undef = .bool mb := hd 3 _ rfl rfl
      have e1 : a.tmps.getD 12 undef = .bool mb := hd 5 _ rfl rfl
      go_simp
      first | exact ⟨_, rfl, rfl, Below.refl _ _⟩ | exact ⟨_, rfl, congrArg Value.bool (by assumption), Below.refl _ _⟩
    · intro a W hR hoff hd
      left
      refine ⟨rfl, ?_⟩
      have e0 : a.tmps.getD 8 undef = .bool true := hd 1 _ rfl rfl
      have e1 : a.tmps.getD 13 undef = .bool true := hd 6 _ rfl rfl
      go_simp
      exact ⟨_, rfl, rfl, Below.refl _ _⟩
    · intro a W hR hoff hd
      left
      refine ⟨rfl, ?_⟩
      have e0 : a.tmps.getD 14 undef = .bool true := hd 7 _ rfl rfl
      go_simp
      exact ⟨_, rfl, rfl, Below.refl _ _⟩
    · intro a W hR hoff hd
      left
      have eg : a.tmps.getD 15 undef = .bool true := hd 8 _ rfl rfl
      refine ⟨wanted_of (ops := _) (j := 8) (b := true) rfl rfl rfl eg, ?_⟩
      clear eg
      have e0 : a.tmps.getD 3 undef = .pointer (some ⟨b, 0, none⟩) := hoff.slot 3 (no_dst (by kernel_rfl))
      have c0 := cell_in (und hR) HLT.out C0.out
      have c1 := cell_in (und hR) HLT.out C1.out
      have c2 := cell_in (und hR) HLT.out C2.out
      go_simp
      exact ⟨_, rfl, rfl, Below.refl _ _⟩
    · intro a W hR hoff hd
      left
      have eg : a.tmps.getD 15 undef = .bool true := hd 8 _ rfl rfl
      refine ⟨wanted_of (ops := _) (j := 8) (b := true) rfl rfl rfl eg, ?_⟩
      clear eg
      have e0 : a.tmps.getD 16 undef = .agg #[.int .i64 k, .int .i64 n, .string s] := hd 9 _ rfl rfl
      go_simp
      refine (HPR.out W (HG.out.below (und hR) HG.out.size)).mono ?_
      rintro e W2 ⟨rfl, hb2⟩
      exact ⟨_, rfl, rfl, belR_of hR (Nat.le_refl _) hb2⟩
    · intro a W hR hoff hd
      left
      have eg : a.tmps.getD 15 undef = .bool true := hd 8 _ rfl rfl
      refine ⟨wanted_of (ops := _) (j := 8) (b := true) rfl rfl rfl eg, ?_⟩
      clear eg
      have e0 : a.tmps.getD 3 undef = .pointer (some ⟨b, 0, none⟩) := hoff.slot 3 (no_dst (by kernel_rfl))
      have c0 := cell_in (und hR) HLT.out C0.out
      have c1 := cell_in (und hR) HLT.out C1.out
      have c2 := cell_in (und hR) HLT.out C2.out
      go_simp
      exact ⟨_, rfl, rfl, Below.refl _ _⟩
    · intro a W hR hoff hd
      left
      have eg : a.tmps.getD 15 undef = .bool true := hd 8 _ rfl rfl
      refine ⟨wanted_of (ops := _) (j := 8) (b := true) rfl rfl rfl eg, ?_⟩
      clear eg
      have e0 : a.tmps.getD 18 undef = .agg #[.int .i64 k, .int .i64 n, .string s] := hd 11 _ rfl rfl
      go_simp
      refine (HDP.out W).mono ?_
      rintro e W2 ⟨rfl, hb2⟩
      exact ⟨_, rfl, rfl, belR_of hR (Nat.le_refl _) hb2⟩
    · intro a W hR hoff hd
      left
      have eg : a.tmps.getD 15 undef = .bool true := hd 8 _ rfl rfl
      refine ⟨wanted_of (ops := _) (j := 8) (b := true) rfl rfl rfl eg, ?_⟩
      clear eg
      have e0 : a.tmps.getD 17 undef = .string P := hd 10 _ rfl rfl
      have e1 : a.tmps.getD 19 undef = .string P := hd 12 _ rfl rfl
      go_simp
      first | exact ⟨_, rfl, rfl, Below.refl _ _⟩ | exact ⟨_, rfl, congrArg Value.bool (by assumption), Below.refl _ _⟩
    · intro a W hR hoff hd
      left
      refine ⟨rfl, ?_⟩
      have e0 : a.tmps.getD 15 undef = .bool true := hd 8 _ rfl rfl
      have e1 : a.tmps.getD 20 undef = .bool true := hd 13 _ rfl rfl
      go_simp
      exact ⟨_, rfl, rfl, Below.refl _ _⟩
    · intro a W hR hoff hd
      left
      refine ⟨rfl, ?_⟩
      have e0 : a.tmps.getD 21 undef = .bool true := hd 14 _ rfl rfl
      go_simp
      exact ⟨_, rfl, rfl, Below.refl _ _⟩
    · intro a W hR hoff hd
      left
      have eg : a.tmps.getD 22 undef = .bool true := hd 15 _ rfl rfl
      refine ⟨wanted_of (ops := _) (j := 15) (b := true) rfl rfl rfl eg, ?_⟩
      clear eg
      have e0 : a.tmps.getD 2 undef = .string nm := hoff.slot 2 (no_dst (by kernel_rfl))
      go_simp
      exact ⟨_, rfl, rfl, Below.refl _ _⟩
    · intro a W hR hoff hd
      left
      have eg : a.tmps.getD 22 undef = .bool true := hd 15 _ rfl rfl
      refine ⟨wanted_of (ops := _) (j := 15) (b := true) rfl rfl rfl eg, ?_⟩
      clear eg
      have e0 : a.tmps.getD 23 undef = .string nm := hd 16 _ rfl rfl
      go_simp
      refine (HNM.out W).mono ?_
      rintro e W2 ⟨rfl, rfl⟩
      exact ⟨_, rfl, rfl, Below.refl _ _⟩
    · intro a W hR hoff hd
      left
      have eg : a.tmps.getD 22 undef = .bool true := hd 15 _ rfl rfl
      refine ⟨wanted_of (ops := _) (j := 15) (b := true) rfl rfl rfl eg, ?_⟩
      clear eg
      have e0 : a.tmps.getD 2 undef = .string nm := hoff.slot 2 (no_dst (by kernel_rfl))
      go_simp
      exact ⟨_, rfl, rfl, Below.refl _ _⟩
    · intro a W hR hoff hd
      left
      have eg : a.tmps.getD 22 undef = .bool true := hd 15 _ rfl rfl
      refine ⟨wanted_of (ops := _) (j := 15) (b := true) rfl rfl rfl eg, ?_⟩
      clear eg
      have e0 : a.tmps.getD 25 undef = .string nm := hd 18 _ rfl rfl
      go_simp
      refine (HDN.out W).mono ?_
      rintro e W2 ⟨rfl, rfl⟩
      exact ⟨_, rfl, rfl, Below.refl _ _⟩
    · intro a W hR hoff hd
      left
      have eg : a.tmps.getD 22 undef = .bool true := hd 15 _ rfl rfl
      refine ⟨wanted_of (ops := _) (j := 15) (b := true) rfl rfl rfl eg, ?_⟩
      clear eg
      have e0 : a.tmps.getD 24 undef = .bool nb := hd 17 _ rfl rfl
      have e1 : a.tmps.getD 26 undef = .bool nb := hd 19 _ rfl rfl
      go_simp
      first | exact ⟨_, rfl, rfl, Below.refl _ _⟩ | exact ⟨_, rfl, congrArg Value.bool (by assumption), Below.refl _ _⟩
    · intro a W hR hoff hd
      left
      refine ⟨rfl, ?_⟩
      have e0 : a.tmps.getD 22 undef = .bool true := hd 15 _ rfl rfl
      have e1 : a.tmps.getD 27 undef = .bool true := hd 20 _ rfl rfl
      go_simp
      exact ⟨_, rfl, rfl, Below.refl _ _⟩
    · intro a W hR hoff hd
      left
      refine ⟨rfl, ?_⟩
      have e0 : a.tmps.getD 28 undef = .bool true := hd 21 _ rfl rfl
      go_simp
      exact ⟨_, rfl, rfl, Below.refl _ _⟩
    · intro a W hR hoff hd
      left
      have eg : a.tmps.getD 29 undef = .bool true := hd 22 _ rfl rfl
      refine ⟨wanted_of (ops := _) (j := 22) (b := true) rfl rfl rfl eg, ?_⟩
      clear eg
      have e0 : a.tmps.getD 1 undef = .int .i64 kd := hoff.slot 1 (no_dst (by kernel_rfl))
      go_simp
      exact ⟨_, rfl, rfl, Below.refl _ _⟩
    · intro a W hR hoff hd
      left
      have eg : a.tmps.getD 29 undef = .bool true := hd 22 _ rfl rfl
      refine ⟨wanted_of (ops := _) (j := 22) (b := true) rfl rfl rfl eg, ?_⟩
      clear eg
      have e0 : a.tmps.getD 30 undef = .int .i64 kd := hd 23 _ rfl rfl
      go_simp
      refine (HZ.out W).mono ?_
      rintro e W2 ⟨rfl, hb2⟩
      exact ⟨_, rfl, rfl, belR_of hR (Nat.le_refl _) hb2⟩
    · intro a W hR hoff hd
      left
      have eg : a.tmps.getD 29 undef = .bool true := hd 22 _ rfl rfl
      refine ⟨wanted_of (ops := _) (j := 22) (b := true) rfl rfl rfl eg, ?_⟩
      clear eg
      have e0 : a.tmps.getD 1 undef = .int .i64 kd := hoff.slot 1 (no_dst (by kernel_rfl))
      go_simp
      exact ⟨_, rfl, rfl, Below.refl _ _⟩
    · intro a W hR hoff hd
      left
      have eg : a.tmps.getD 29 undef = .bool true := hd 22 _ rfl rfl
      refine ⟨wanted_of (ops := _) (j := 22) (b := true) rfl rfl rfl eg, ?_⟩
      clear eg
      have e0 : a.tmps.getD 32 undef = .int .i64 kd := hd 25 _ rfl rfl
      have e0' : a.tmps[32]?.getD undef = .int .i64 kd := by simpa using e0
      go_simp
      exact ⟨_, rfl, rfl, Below.refl _ _⟩
    · intro a W hR hoff hd
      left
      have eg : a.tmps.getD 29 undef = .bool true := hd 22 _ rfl rfl
      refine ⟨wanted_of (ops := _) (j := 22) (b := true) rfl rfl rfl eg, ?_⟩
      clear eg
      have e0 : a.tmps.getD 31 undef = .agg #[.int .i64 0, .int .i64 0, .string ⟨#[]⟩] := hd 24 _ rfl rfl
      have e1 : a.tmps.getD 33 undef = .agg #[.int .i64 kd, .int .i64 0, .string ⟨#[]⟩] := hd 26 _ rfl rfl
      go_simp
      first | exact ⟨_, rfl, rfl, Below.refl _ _⟩ | exact ⟨_, rfl, congrArg Value.bool (by assumption), Below.refl _ _⟩
    · intro a W hR hoff hd
      left
      have eg : a.tmps.getD 29 undef = .bool true := hd 22 _ rfl rfl
      refine ⟨wanted_of (ops := _) (j := 22) (b := true) rfl rfl rfl eg, ?_⟩
      clear eg
      have e0 : a.tmps.getD 1 undef = .int .i64 kd := hoff.slot 1 (no_dst (by kernel_rfl))
      go_simp
      exact ⟨_, rfl, rfl, Below.refl _ _⟩
    · intro a W hR hoff hd
      left
      have eg : a.tmps.getD 29 undef = .bool true := hd 22 _ rfl rfl
      refine ⟨wanted_of (ops := _) (j := 22) (b := true) rfl rfl rfl eg, ?_⟩
      clear eg
      have e0 : a.tmps.getD 35 undef = .int .i64 kd := hd 28 _ rfl rfl
      go_simp
      first | exact ⟨_, rfl, rfl, Below.refl _ _⟩ | exact ⟨_, rfl, congrArg Value.bool (by assumption), Below.refl _ _⟩
    · intro a W hR hoff hd
      left
      have eg : a.tmps.getD 29 undef = .bool true := hd 22 _ rfl rfl
      refine ⟨wanted_of (ops := _) (j := 22) (b := true) rfl rfl rfl eg, ?_⟩
      clear eg
      have e0 : a.tmps.getD 36 undef = .bool true := hd 29 _ rfl rfl
      go_simp
      exact ⟨_, rfl, rfl, Below.refl _ _⟩
    · intro a W hR hoff hd
      left
      have eg : a.tmps.getD 37 undef = .bool true := hd 30 _ rfl rfl
      refine ⟨wanted_of (ops := _) (j := 30) (b := true) rfl rfl rfl eg, ?_⟩
      clear eg
      have e0 : a.tmps.getD 1 undef = .int .i64 kd := hoff.slot 1 (no_dst (by kernel_rfl))
      go_simp
      exact ⟨_, rfl, rfl, Below.refl _ _⟩
    · intro a W hR hoff hd
      left
      have eg : a.tmps.getD 37 undef = .bool true := hd 30 _ rfl rfl
      refine ⟨wanted_of (ops := _) (j := 30) (b := true) rfl rfl rfl eg, ?_⟩
      clear eg
      have e0 : a.tmps.getD 38 undef = .int .i64 kd := hd 31 _ rfl rfl
      go_simp
      first | exact ⟨_, rfl, rfl, Below.refl _ _⟩ | exact ⟨_, rfl, congrArg Value.bool (by assumption), Below.refl _ _⟩
    · intro a W hR hoff hd
      left
      have eg : a.tmps.getD 29 undef = .bool true := hd 22 _ rfl rfl
      refine ⟨wanted_of (ops := _) (j := 22) (b := true) rfl rfl rfl eg, ?_⟩
      clear eg
      have e0 : a.tmps.getD 37 undef = .bool true := hd 30 _ rfl rfl
      have e1 : a.tmps.getD 39 undef = .bool false := hd 32 _ rfl rfl
      go_simp
      exact ⟨_, rfl, rfl, Below.refl _ _⟩
    · intro a W hR hoff hd
      left
      have eg : a.tmps.getD 29 undef = .bool true := hd 22 _ rfl rfl
      refine ⟨wanted_of (ops := _) (j := 22) (b := true) rfl rfl rfl eg, ?_⟩
      clear eg
      have e0 : a.tmps.getD 34 undef = .bool false := hd 27 _ rfl rfl
      have e1 : a.tmps.getD 40 undef = .bool false := hd 33 _ rfl rfl
      go_simp
      first | exact ⟨_, rfl, rfl, Below.refl _ _⟩ | exact ⟨_, rfl, congrArg Value.bool (by assumption), Below.refl _ _⟩
    · intro a W hR hoff hd
      left
      refine ⟨rfl, ?_⟩
      have e0 : a.tmps.getD 29 undef = .bool true := hd 22 _ rfl rfl
      have e1 : a.tmps.getD 41 undef = .bool true := hd 34 _ rfl rfl
      go_simp
      exact ⟨_, rfl, rfl, Below.refl _ _⟩
    · intro a W hR hoff hd
      left
      refine ⟨rfl, ?_⟩
      have e0 : a.tmps.getD 42 undef = .bool true := hd 35 _ rfl rfl
      go_simp
      exact ⟨_, rfl, rfl, Below.refl _ _⟩
    · intro a W hR hoff hd
      left
      have eg : a.tmps.getD 43 undef = .bool true := hd 36 _ rfl rfl
      refine ⟨wanted_of (ops := _) (j := 36) (b := true) rfl rfl rfl eg, ?_⟩
      clear eg
      have e0 : a.tmps.getD 1 undef = .int .i64 kd := hoff.slot 1 (no_dst (by kernel_rfl))
      go_simp
      exact ⟨_, rfl, rfl, Below.refl _ _⟩
    · intro a W hR hoff hd
      left
      have eg : a.tmps.getD 43 undef = .bool true := hd 36 _ rfl rfl
      refine ⟨wanted_of (ops := _) (j := 36) (b := true) rfl rfl rfl eg, ?_⟩
      clear eg
      have e0 : a.tmps.getD 44 undef = .int .i64 kd := hd 37 _ rfl rfl
      go_simp
      refine (HZ.out W).mono ?_
      rintro e W2 ⟨rfl, hb2⟩
      exact ⟨_, rfl, rfl, belR_of hR (Nat.le_refl _) hb2⟩
    · intro a W hR hoff hd
      left
      have eg : a.tmps.getD 43 undef = .bool true := hd 36 _ rfl rfl
      refine ⟨wanted_of (ops := _) (j := 36) (b := true) rfl rfl rfl eg, ?_⟩
      clear eg
      have e0 : a.tmps.getD 45 undef = .agg #[.int .i64 0, .int .i64 0, .string ⟨#[]⟩] := hd 38 _ rfl rfl
      have hf := fld1 0 W
      go_simp
      exact ⟨_, rfl, rfl, Below.refl _ _⟩
    · intro a W hR hoff hd
      left
      have eg : a.tmps.getD 43 undef = .bool true := hd 36 _ rfl rfl
      refine ⟨wanted_of (ops := _) (j := 36) (b := true) rfl rfl rfl eg, ?_⟩
      clear eg
      have e0 : a.tmps.getD 46 undef = .int .i64 0 := hd 39 _ rfl rfl
      go_simp
      first | exact ⟨_, rfl, rfl, Below.refl _ _⟩ | exact ⟨_, rfl, congrArg Value.bool (by assumption), Below.refl _ _⟩
    · intro a W hR hoff hd
      left
      refine ⟨rfl, ?_⟩
      have e0 : a.tmps.getD 43 undef = .bool true := hd 36 _ rfl rfl
      have e1 : a.tmps.getD 47 undef = .bool true := hd 40 _ rfl rfl
      go_simp
      exact ⟨_, rfl, rfl, Below.refl _ _⟩
    · intro a W hR hoff hd
      left
      refine ⟨rfl, ?_⟩
      have e0 : a.tmps.getD 48 undef = .bool true := hd 41 _ rfl rfl
      go_simp
      exact ⟨_, rfl, rfl, Below.refl _ _⟩
    · intro a W hR hoff hd
      left
      have eg : a.tmps.getD 49 undef = .bool true := hd 42 _ rfl rfl
      refine ⟨wanted_of (ops := _) (j := 42) (b := true) rfl rfl rfl eg, ?_⟩
      clear eg
      have e0 : a.tmps.getD 1 undef = .int .i64 kd := hoff.slot 1 (no_dst (by kernel_rfl))
      go_simp
      exact ⟨_, rfl, rfl, Below.refl _ _⟩
    · intro a W hR hoff hd
      left
      have eg : a.tmps.getD 49 undef = .bool true := hd 42 _ rfl rfl
      refine ⟨wanted_of (ops := _) (j := 42) (b := true) rfl rfl rfl eg, ?_⟩
      clear eg
      have e0 : a.tmps.getD 50 undef = .int .i64 kd := hd 43 _ rfl rfl
      go_simp
      refine (HZ.out W).mono ?_
      rintro e W2 ⟨rfl, hb2⟩
      exact ⟨_, rfl, rfl, belR_of hR (Nat.le_refl _) hb2⟩
    · intro a W hR hoff hd
      left
      have eg : a.tmps.getD 49 undef = .bool true := hd 42 _ rfl rfl
      refine ⟨wanted_of (ops := _) (j := 42) (b := true) rfl rfl rfl eg, ?_⟩
      clear eg
      have e0 : a.tmps.getD 51 undef = .agg #[.int .i64 0, .int .i64 0, .string ⟨#[]⟩] := hd 44 _ rfl rfl
      have hf := fld2 0 W
      go_simp
      exact ⟨_, rfl, rfl, Below.refl _ _⟩
    · intro a W hR hoff hd
      left
      have eg : a.tmps.getD 49 undef = .bool true := hd 42 _ rfl rfl
      refine ⟨wanted_of (ops := _) (j := 42) (b := true) rfl rfl rfl eg, ?_⟩
      clear eg
      have e0 : a.tmps.getD 52 undef = .string ⟨#[]⟩ := hd 45 _ rfl rfl
      go_simp
      first | exact ⟨_, rfl, rfl, Below.refl _ _⟩ | exact ⟨_, rfl, congrArg Value.bool (by assumption), Below.refl _ _⟩
    · intro a W hR hoff hd
      left
      refine ⟨rfl, ?_⟩
      have e0 : a.tmps.getD 49 undef = .bool true := hd 42 _ rfl rfl
      have e1 : a.tmps.getD 53 undef = .bool true := hd 46 _ rfl rfl
      go_simp
      exact ⟨_, rfl, rfl, Below.refl _ _⟩
    · intro a W hR hoff hd
      left
      refine ⟨rfl, ?_⟩
      have e0 : a.tmps.getD 54 undef = .bool true := hd 47 _ rfl rfl
      go_simp
      exact ⟨_, rfl, rfl, Below.refl _ _⟩
  · intro a W hR hoff hd
    have e6 : a.tmps.getD 6 undef = .bool true := hd 48 _ rfl
    rename_i hK
    refine hK _ _ ?_
    go_wp2
    refine bodyPost_ret (results_tmp rfl _ _ _) hoff.defers ⟨by rw [e6], ?_⟩
    rw [HBZ.out]
    exact HB0.out.trans (Below.mono (und hR) HSZ0.out)
def mayC (mb : Bool) (P : ByteArray) (nb : Bool) (b : Nat) (k n : Int) (s nm : ByteArray) (kd : Int) : Nat → Value
  | 0 => .bool true
  | 1 => .bool true
  | 2 => .agg #[.int .i64 k, .int .i64 n, .string s]
  | 3 => .bool mb
  | 4 => .agg #[.int .i64 k, .int .i64 n, .string s]
  | 5 => .bool mb
  | 6 => .bool true
  | 7 => .bool true
  | 8 => .bool true
  | 9 => .agg #[.int .i64 k, .int .i64 n, .string s]
  | 10 => .string P
  | 11 => .agg #[.int .i64 k, .int .i64 n, .string s]
  | 12 => .string P
  | 13 => .bool true
  | 14 => .bool true
  | 15 => .bool true
  | 16 => .string nm
  | 17 => .bool nb
  | 18 => .string nm
  | 19 => .bool nb
  | 20 => .bool true
  | 21 => .bool true
  | 22 => .bool true
  | 23 => .int .i64 kd
  | 24 => .agg #[.int .i64 0, .int .i64 0, .string ⟨#[]⟩]
  | 25 => .int .i64 kd
  | 26 => .agg #[.int .i64 kd, .int .i64 0, .string ⟨#[]⟩]
  | 27 => .bool false
  | 28 => .int .i64 kd
  | 29 => .bool false
  | 30 => .bool false
  | 31 => undef
  | 32 => undef
  | 33 => .bool false
  | 34 => .bool true
  | 35 => .bool true
  | 36 => .bool true
  | 37 => .int .i64 kd
  | 38 => .agg #[.int .i64 0, .int .i64 0, .string ⟨#[]⟩]
  | 39 => .int .i64 0
  | 40 => .bool true
  | 41 => .bool true
  | 42 => .bool true
  | 43 => .int .i64 kd
  | 44 => .agg #[.int .i64 0, .int .i64 0, .string ⟨#[]⟩]
  | 45 => .string ⟨#[]⟩
  | 46 => .bool true
  | 47 => .bool true
  | 48 => .bool true
  | _ => undef
set_option maxHeartbeats 16000000 in
set_option maxRecDepth 100000 in
theorem may_C (w : World) (k n : Int) (s : ByteArray) (kd : Int) (nm : ByteArray) (hn : In64 n) (hG : Glob w) (h0 : kd < 0) :
    Calls Tryd.prog 3 #[.agg #[.int .i64 k, .int .i64 n, .string s], .int .i64 kd, .string nm] w fun e w' => e = .returned (.bool true) ∧ Below w.heap.size w w' := by
  have HMA := Lib.hid (fun W => may_any W k n s)
  have HDM := Lib.hid (fun W => dMay_any W k n s)
  have HPR := Lib.hid (fun W hW => print_any W k n s hn hW)
  have HDP := Lib.hid (fun W => dPrint_any W k n s hn)
  have HNM := Lib.hid (fun W => name_any W nm)
  have HDN := Lib.hid (fun W => dName_any W nm)
  have HZ := Lib.hid (fun W => zero_any W kd)
  rw [zero_other (.inl h0)] at HZ
  have q1 : ((0 : Int) == kd) = false := beq_eq_false_iff_ne.2 (by omega)
  have q3 : decide ((0 : Int) ≤ kd) = false := decide_eq_false (by omega)
  generalize mayV ⟨k, n, s⟩ = mb at *
  generalize (⟨(prV ⟨k, n, s⟩).toArray⟩ : ByteArray) = P at *
  generalize nameB nm.data.toList = nb at *
  have HB0 : Hid (Below w.heap.size w (w.alloc (.cells #[.int .i64 k, .int .i64 n, .string s] 23 (0, 0)))) := Lib.hid ((Below.refl _ _).alloc (Nat.le_refl _) _)
  have HG : Hid (Glob (w.alloc (.cells #[.int .i64 k, .int .i64 n, .string s] 23 (0, 0)))) := Lib.hid (hG.below HB0.out hG.size)
  have HLT : Hid (w.heap.size < (w.alloc (.cells #[.int .i64 k, .int .i64 n, .string s] 23 (0, 0))).heap.size) := Lib.hid (by simp)
  have C0 : Hid ((w.alloc (.cells #[.int .i64 k, .int .i64 n, .string s] 23 (0, 0))).cell? ⟨w.heap.size, 0, none⟩ = some (.int .i64 k)) := Lib.hid (box_cell (Below.refl _ _) 0 rfl)
  have C1 : Hid ((w.alloc (.cells #[.int .i64 k, .int .i64 n, .string s] 23 (0, 0))).cell? ⟨w.heap.size, 1, none⟩ = some (.int .i64 n)) := Lib.hid (box_cell (Below.refl _ _) 1 rfl)
  have C2 : Hid ((w.alloc (.cells #[.int .i64 k, .int .i64 n, .string s] 23 (0, 0))).cell? ⟨w.heap.size, 2, none⟩ = some (.string s)) := Lib.hid (box_cell (Below.refl _ _) 2 rfl)
  clear hG hn
  go_enter Tryd.func3, Tryd.ntmps3
  go_wp2_with fail
  have HSZ0 := Lib.hid HB0.out.size
  generalize w.alloc (.cells #[.int .i64 k, .int .i64 n, .string s] 23 (0, 0)) = W0 at *
  generalize hbz : w.heap.size = b at *
  have HBZ := Lib.hid hbz
  clear hbz
  refine wp_region_steps (fun i v _ => v = mayC mb P nb b k n s nm kd i) (belR W0.heap.size) (by kernel_rfl) (by kernel_rfl) (fun _ => Below.refl _ _) (fun _ _ _ h k => belR_trans h k) (fun _ _ _ _ h _ => h) ?_ ?_
  · refine ⟨?_, ?_, ?_, ?_, ?_, ?_, ?_, ?_, ?_, ?_, ?_, ?_, ?_, ?_, ?_, ?_, ?_, ?_, ?_, ?_, ?_, ?_, ?_, ?_, ?_, ?_, ?_, ?_, ?_, ?_, ?_, ?_, ?_, ?_, ?_, ?_, ?_, ?_, ?_, ?_, ?_, ?_, ?_, ?_, ?_, ?_, ?_, ?_, ?_, trivial⟩
    · intro a W hR hoff hd
      left
      refine ⟨rfl, ?_⟩
      go_simp
      refine (awake_any W (HG.out.below (und hR) HG.out.size)).mono ?_
      rintro e W2 ⟨rfl, hb2⟩
      exact ⟨_, rfl, rfl, belR_of hR (Nat.le_refl _) hb2⟩
    · intro a W hR hoff hd
      left
      refine ⟨rfl, ?_⟩
      have e0 : a.tmps.getD 7 undef = .bool true := hd 0 _ rfl rfl
      go_simp
      exact ⟨_, rfl, rfl, Below.refl _ _⟩
    · intro a W hR hoff hd
      left
      have eg : a.tmps.getD 8 undef = .bool true := hd 1 _ rfl rfl
      refine ⟨wanted_of (ops := _) (j := 1) (b := true) rfl rfl rfl eg, ?_⟩
      clear eg
      have e0 : a.tmps.getD 3 undef = .pointer (some ⟨b, 0, none⟩) := hoff.slot 3 (no_dst (by kernel_rfl))
      have c0 := cell_in (und hR) HLT.out C0.out
      have c1 := cell_in (und hR) HLT.out C1.out
      have c2 := cell_in (und hR) HLT.out C2.out
      go_simp
      exact ⟨_, rfl, rfl, Below.refl _ _⟩
    · intro a W hR hoff hd
      left
      have eg : a.tmps.getD 8 undef = .bool true := hd 1 _ rfl rfl
      refine ⟨wanted_of (ops := _) (j := 1) (b := true) rfl rfl rfl eg, ?_⟩
      clear eg
      have e0 : a.tmps.getD 9 undef = .agg #[.int .i64 k, .int .i64 n, .string s] := hd 2 _ rfl rfl
      go_simp
      refine (HMA.out W).mono ?_
      rintro e W2 ⟨rfl, hb2⟩
      exact ⟨_, rfl, rfl, belR_of hR (Nat.le_refl _) hb2⟩
    · intro a W hR hoff hd
      left
      have eg : a.tmps.getD 8 undef = .bool true := hd 1 _ rfl rfl
      refine ⟨wanted_of (ops := _) (j := 1) (b := true) rfl rfl rfl eg, ?_⟩
      clear eg
      have e0 : a.tmps.getD 3 undef = .pointer (some ⟨b, 0, none⟩) := hoff.slot 3 (no_dst (by kernel_rfl))
      have c0 := cell_in (und hR) HLT.out C0.out
      have c1 := cell_in (und hR) HLT.out C1.out
      have c2 := cell_in (und hR) HLT.out C2.out
      go_simp
      exact ⟨_, rfl, rfl, Below.refl _ _⟩
    · intro a W hR hoff hd
      left
      have eg : a.tmps.getD 8 undef = .bool true := hd 1 _ rfl rfl
      refine ⟨wanted_of (ops := _) (j := 1) (b := true) rfl rfl rfl eg, ?_⟩
      clear eg
      have e0 : a.tmps.getD 11 undef = .agg #[.int .i64 k, .int .i64 n, .string s] := hd 4 _ rfl rfl
      go_simp
      refine (HDM.out W).mono ?_
      rintro e W2 ⟨rfl, hb2⟩
      exact ⟨_, rfl, rfl, belR_of hR (Nat.le_refl _) hb2⟩
    · intro a W hR hoff hd
      left
      have eg : a.tmps.getD 8 undef = .bool true := hd 1 _ rfl rfl
      refine ⟨wanted_of (ops := _) (j := 1) (b := true) rfl rfl rfl eg, ?_⟩
      clear eg
      have e0 : a.tmps.getD 10 undef = .bool mb := hd 3 _ rfl rfl
      have e1 : a.tmps.getD 12 undef = .bool mb := hd 5 _ rfl rfl
      go_simp
      first | exact ⟨_, rfl, rfl, Below.refl _ _⟩ | exact ⟨_, rfl, congrArg Value.bool (by assumption), Below.refl _ _⟩
    · intro a W hR hoff hd
      left
      refine ⟨rfl, ?_⟩
      have e0 : a.tmps.getD 8 undef = .bool true := hd 1 _ rfl rfl
      have e1 : a.tmps.getD 13 undef = .bool true := hd 6 _ rfl rfl
      go_simp
      exact ⟨_, rfl, rfl, Below.refl _ _⟩
    · intro a W hR hoff hd
      left
      refine ⟨rfl, ?_⟩
      have e0 : a.tmps.getD 14 undef = .bool true := hd 7 _ rfl rfl
      go_simp
      exact ⟨_, rfl, rfl, Below.refl _ _⟩
    · intro a W hR hoff hd
      left
      have eg : a.tmps.getD 15 undef = .bool true := hd 8 _ rfl rfl
      refine ⟨wanted_of (ops := _) (j := 8) (b := true) rfl rfl rfl eg, ?_⟩
      clear eg
      have e0 : a.tmps.getD 3 undef = .pointer (some ⟨b, 0, none⟩) := hoff.slot 3 (no_dst (by kernel_rfl))
      have c0 := cell_in (und hR) HLT.out C0.out
      have c1 := cell_in (und hR) HLT.out C1.out
      have c2 := cell_in (und hR) HLT.out C2.out
      go_simp
      exact ⟨_, rfl, rfl, Below.refl _ _⟩
    · intro a W hR hoff hd
      left
      have eg : a.tmps.getD 15 undef = .bool true := hd 8 _ rfl rfl
      refine ⟨wanted_of (ops := _) (j := 8) (b := true) rfl rfl rfl eg, ?_⟩
      clear eg
      have e0 : a.tmps.getD 16 undef = .agg #[.int .i64 k, .int .i64 n, .string s] := hd 9 _ rfl rfl
      go_simp
      refine (HPR.out W (HG.out.below (und hR) HG.out.size)).mono ?_
      rintro e W2 ⟨rfl, hb2⟩
      exact ⟨_, rfl, rfl, belR_of hR (Nat.le_refl _) hb2⟩
    · intro a W hR hoff hd
      left
      have eg : a.tmps.getD 15 undef = .bool true := hd 8 _ rfl rfl
      refine ⟨wanted_of (ops := _) (j := 8) (b := true) rfl rfl rfl eg, ?_⟩
      clear eg
      have e0 : a.tmps.getD 3 undef = .pointer (some ⟨b, 0, none⟩) := hoff.slot 3 (no_dst (by kernel_rfl))
      have c0 := cell_in (und hR) HLT.out C0.out
      have c1 := cell_in (und hR) HLT.out C1.out
      have c2 := cell_in (und hR) HLT.out C2.out
      go_simp
      exact ⟨_, rfl, rfl, Below.refl _ _⟩
    · intro a W hR hoff hd
      left
      have eg : a.tmps.getD 15 undef = .bool true := hd 8 _ rfl rfl
      refine ⟨wanted_of (ops := _) (j := 8) (b := true) rfl rfl rfl eg, ?_⟩
      clear eg
      have e0 : a.tmps.getD 18 undef = .agg #[.int .i64 k, .int .i64 n, .string s] := hd 11 _ rfl rfl
      go_simp
      refine (HDP.out W).mono ?_
      rintro e W2 ⟨rfl, hb2⟩
      exact ⟨_, rfl, rfl, belR_of hR (Nat.le_refl _) hb2⟩
    · intro a W hR hoff hd
      left
      have eg : a.tmps.getD 15 undef = .bool true := hd 8 _ rfl rfl
      refine ⟨wanted_of (ops := _) (j := 8) (b := true) rfl rfl rfl eg, ?_⟩
      clear eg
      have e0 : a.tmps.getD 17 undef = .string P := hd 10 _ rfl rfl
      have e1 : a.tmps.getD 19 undef = .string P := hd 12 _ rfl rfl
      go_simp
      first | exact ⟨_, rfl, rfl, Below.refl _ _⟩ | exact ⟨_, rfl, congrArg Value.bool (by assumption), Below.refl _ _⟩
    · intro a W hR hoff hd
      left
      refine ⟨rfl, ?_⟩
      have e0 : a.tmps.getD 15 undef = .bool true := hd 8 _ rfl rfl
      have e1 : a.tmps.getD 20 undef = .bool true := hd 13 _ rfl rfl
      go_simp
      exact ⟨_, rfl, rfl, Below.refl _ _⟩
    · intro a W hR hoff hd
      left
      refine ⟨rfl, ?_⟩
      have e0 : a.tmps.getD 21 undef = .bool true := hd 14 _ rfl rfl
      go_simp
      exact ⟨_, rfl, rfl, Below.refl _ _⟩
    · intro a W hR hoff hd
      left
      have eg : a.tmps.getD 22 undef = .bool true := hd 15 _ rfl rfl
      refine ⟨wanted_of (ops := _) (j := 15) (b := true) rfl rfl rfl eg, ?_⟩
      clear eg
      have e0 : a.tmps.getD 2 undef = .string nm := hoff.slot 2 (no_dst (by kernel_rfl))
      go_simp
      exact ⟨_, rfl, rfl, Below.refl _ _⟩
    · intro a W hR hoff hd
      left
      have eg : a.tmps.getD 22 undef = .bool true := hd 15 _ rfl rfl
      refine ⟨wanted_of (ops := _) (j := 15) (b := true) rfl rfl rfl eg, ?_⟩
      clear eg
      have e0 : a.tmps.getD 23 undef = .string nm := hd 16 _ rfl rfl
      go_simp
      refine (HNM.out W).mono ?_
      rintro e W2 ⟨rfl, rfl⟩
      exact ⟨_, rfl, rfl, Below.refl _ _⟩
    · intro a W hR hoff hd
      left
      have eg : a.tmps.getD 22 undef = .bool true := hd 15 _ rfl rfl
      refine ⟨wanted_of (ops := _) (j := 15) (b := true) rfl rfl rfl eg, ?_⟩
      clear eg
      have e0 : a.tmps.getD 2 undef = .string nm := hoff.slot 2 (no_dst (by kernel_rfl))
      go_simp
      exact ⟨_, rfl, rfl, Below.refl _ _⟩
    · intro a W hR hoff hd
      left
      have eg : a.tmps.getD 22 undef = .bool true := hd 15 _ rfl rfl
      refine ⟨wanted_of (ops := _) (j := 15) (b := true) rfl rfl rfl eg, ?_⟩
      clear eg
      have e0 : a.tmps.getD 25 undef = .string nm := hd 18 _ rfl rfl
      go_simp
      refine (HDN.out W).mono ?_
      rintro e W2 ⟨rfl, rfl⟩
      exact ⟨_, rfl, rfl, Below.refl _ _⟩
    · intro a W hR hoff hd
      left
      have eg : a.tmps.getD 22 undef = .bool true := hd 15 _ rfl rfl
      refine ⟨wanted_of (ops := _) (j := 15) (b := true) rfl rfl rfl eg, ?_⟩
      clear eg
      have e0 : a.tmps.getD 24 undef = .bool nb := hd 17 _ rfl rfl
      have e1 : a.tmps.getD 26 undef = .bool nb := hd 19 _ rfl rfl
      go_simp
      first | exact ⟨_, rfl, rfl, Below.refl _ _⟩ | exact ⟨_, rfl, congrArg Value.bool (by assumption), Below.refl _ _⟩
    · intro a W hR hoff hd
      left
      refine ⟨rfl, ?_⟩
      have e0 : a.tmps.getD 22 undef = .bool true := hd 15 _ rfl rfl
      have e1 : a.tmps.getD 27 undef = .bool true := hd 20 _ rfl rfl
      go_simp
      exact ⟨_, rfl, rfl, Below.refl _ _⟩
    · intro a W hR hoff hd
      left
      refine ⟨rfl, ?_⟩
      have e0 : a.tmps.getD 28 undef = .bool true := hd 21 _ rfl rfl
      go_simp
      exact ⟨_, rfl, rfl, Below.refl _ _⟩
    · intro a W hR hoff hd
      left
      have eg : a.tmps.getD 29 undef = .bool true := hd 22 _ rfl rfl
      refine ⟨wanted_of (ops := _) (j := 22) (b := true) rfl rfl rfl eg, ?_⟩
      clear eg
      have e0 : a.tmps.getD 1 undef = .int .i64 kd := hoff.slot 1 (no_dst (by kernel_rfl))
      go_simp
      exact ⟨_, rfl, rfl, Below.refl _ _⟩
    · intro a W hR hoff hd
      left
      have eg : a.tmps.getD 29 undef = .bool true := hd 22 _ rfl rfl
      refine ⟨wanted_of (ops := _) (j := 22) (b := true) rfl rfl rfl eg, ?_⟩
      clear eg
      have e0 : a.tmps.getD 30 undef = .int .i64 kd := hd 23 _ rfl rfl
      go_simp
      refine (HZ.out W).mono ?_
      rintro e W2 ⟨rfl, hb2⟩
      exact ⟨_, rfl, rfl, belR_of hR (Nat.le_refl _) hb2⟩
    · intro a W hR hoff hd
      left
      have eg : a.tmps.getD 29 undef = .bool true := hd 22 _ rfl rfl
      refine ⟨wanted_of (ops := _) (j := 22) (b := true) rfl rfl rfl eg, ?_⟩
      clear eg
      have e0 : a.tmps.getD 1 undef = .int .i64 kd := hoff.slot 1 (no_dst (by kernel_rfl))
      go_simp
      exact ⟨_, rfl, rfl, Below.refl _ _⟩
    · intro a W hR hoff hd
      left
      have eg : a.tmps.getD 29 undef = .bool true := hd 22 _ rfl rfl
      refine ⟨wanted_of (ops := _) (j := 22) (b := true) rfl rfl rfl eg, ?_⟩
      clear eg
      have e0 : a.tmps.getD 32 undef = .int .i64 kd := hd 25 _ rfl rfl
      have e0' : a.tmps[32]?.getD undef = .int .i64 kd := by simpa using e0
      go_simp
      exact ⟨_, rfl, rfl, Below.refl _ _⟩
    · intro a W hR hoff hd
      left
      have eg : a.tmps.getD 29 undef = .bool true := hd 22 _ rfl rfl
      refine ⟨wanted_of (ops := _) (j := 22) (b := true) rfl rfl rfl eg, ?_⟩
      clear eg
      have e0 : a.tmps.getD 31 undef = .agg #[.int .i64 0, .int .i64 0, .string ⟨#[]⟩] := hd 24 _ rfl rfl
      have e1 : a.tmps.getD 33 undef = .agg #[.int .i64 kd, .int .i64 0, .string ⟨#[]⟩] := hd 26 _ rfl rfl
      go_simp
      first | exact ⟨_, rfl, rfl, Below.refl _ _⟩ | exact ⟨_, rfl, congrArg Value.bool (by assumption), Below.refl _ _⟩
    · intro a W hR hoff hd
      left
      have eg : a.tmps.getD 29 undef = .bool true := hd 22 _ rfl rfl
      refine ⟨wanted_of (ops := _) (j := 22) (b := true) rfl rfl rfl eg, ?_⟩
      clear eg
      have e0 : a.tmps.getD 1 undef = .int .i64 kd := hoff.slot 1 (no_dst (by kernel_rfl))
      go_simp
      exact ⟨_, rfl, rfl, Below.refl _ _⟩
    · intro a W hR hoff hd
      left
      have eg : a.tmps.getD 29 undef = .bool true := hd 22 _ rfl rfl
      refine ⟨wanted_of (ops := _) (j := 22) (b := true) rfl rfl rfl eg, ?_⟩
      clear eg
      have e0 : a.tmps.getD 35 undef = .int .i64 kd := hd 28 _ rfl rfl
      go_simp
      first | exact ⟨_, rfl, rfl, Below.refl _ _⟩ | exact ⟨_, rfl, congrArg Value.bool (by assumption), Below.refl _ _⟩
    · intro a W hR hoff hd
      left
      have eg : a.tmps.getD 29 undef = .bool true := hd 22 _ rfl rfl
      refine ⟨wanted_of (ops := _) (j := 22) (b := true) rfl rfl rfl eg, ?_⟩
      clear eg
      have e0 : a.tmps.getD 36 undef = .bool false := hd 29 _ rfl rfl
      go_simp
      exact ⟨_, rfl, rfl, Below.refl _ _⟩
    · intro a W hR hoff hd
      right
      have eg : a.tmps.getD 37 undef = .bool false := hd 30 _ rfl rfl
      exact ⟨unwanted_of (ops := _) (j := 30) (b := true) rfl rfl rfl (b2 := false) (by decide) eg, rfl⟩
    · intro a W hR hoff hd
      right
      have eg : a.tmps.getD 37 undef = .bool false := hd 30 _ rfl rfl
      exact ⟨unwanted_of (ops := _) (j := 30) (b := true) rfl rfl rfl (b2 := false) (by decide) eg, rfl⟩
    · intro a W hR hoff hd
      left
      have eg : a.tmps.getD 29 undef = .bool true := hd 22 _ rfl rfl
      refine ⟨wanted_of (ops := _) (j := 22) (b := true) rfl rfl rfl eg, ?_⟩
      clear eg
      have e0 : a.tmps.getD 37 undef = .bool false := hd 30 _ rfl rfl
      have e1 : a.tmps.getD 39 undef = undef := hd 32 _ rfl rfl
      go_simp
      exact ⟨_, rfl, rfl, Below.refl _ _⟩
    · intro a W hR hoff hd
      left
      have eg : a.tmps.getD 29 undef = .bool true := hd 22 _ rfl rfl
      refine ⟨wanted_of (ops := _) (j := 22) (b := true) rfl rfl rfl eg, ?_⟩
      clear eg
      have e0 : a.tmps.getD 34 undef = .bool false := hd 27 _ rfl rfl
      have e1 : a.tmps.getD 40 undef = .bool false := hd 33 _ rfl rfl
      go_simp
      first | exact ⟨_, rfl, rfl, Below.refl _ _⟩ | exact ⟨_, rfl, congrArg Value.bool (by assumption), Below.refl _ _⟩
    · intro a W hR hoff hd
      left
      refine ⟨rfl, ?_⟩
      have e0 : a.tmps.getD 29 undef = .bool true := hd 22 _ rfl rfl
      have e1 : a.tmps.getD 41 undef = .bool true := hd 34 _ rfl rfl
      go_simp
      exact ⟨_, rfl, rfl, Below.refl _ _⟩
    · intro a W hR hoff hd
      left
      refine ⟨rfl, ?_⟩
      have e0 : a.tmps.getD 42 undef = .bool true := hd 35 _ rfl rfl
      go_simp
      exact ⟨_, rfl, rfl, Below.refl _ _⟩
    · intro a W hR hoff hd
      left
      have eg : a.tmps.getD 43 undef = .bool true := hd 36 _ rfl rfl
      refine ⟨wanted_of (ops := _) (j := 36) (b := true) rfl rfl rfl eg, ?_⟩
      clear eg
      have e0 : a.tmps.getD 1 undef = .int .i64 kd := hoff.slot 1 (no_dst (by kernel_rfl))
      go_simp
      exact ⟨_, rfl, rfl, Below.refl _ _⟩
    · intro a W hR hoff hd
      left
      have eg : a.tmps.getD 43 undef = .bool true := hd 36 _ rfl rfl
      refine ⟨wanted_of (ops := _) (j := 36) (b := true) rfl rfl rfl eg, ?_⟩
      clear eg
      have e0 : a.tmps.getD 44 undef = .int .i64 kd := hd 37 _ rfl rfl
      go_simp
      refine (HZ.out W).mono ?_
      rintro e W2 ⟨rfl, hb2⟩
      exact ⟨_, rfl, rfl, belR_of hR (Nat.le_refl _) hb2⟩
    · intro a W hR hoff hd
      left
      have eg : a.tmps.getD 43 undef = .bool true := hd 36 _ rfl rfl
      refine ⟨wanted_of (ops := _) (j := 36) (b := true) rfl rfl rfl eg, ?_⟩
      clear eg
      have e0 : a.tmps.getD 45 undef = .agg #[.int .i64 0, .int .i64 0, .string ⟨#[]⟩] := hd 38 _ rfl rfl
      have hf := fld1 0 W
      go_simp
      exact ⟨_, rfl, rfl, Below.refl _ _⟩
    · intro a W hR hoff hd
      left
      have eg : a.tmps.getD 43 undef = .bool true := hd 36 _ rfl rfl
      refine ⟨wanted_of (ops := _) (j := 36) (b := true) rfl rfl rfl eg, ?_⟩
      clear eg
      have e0 : a.tmps.getD 46 undef = .int .i64 0 := hd 39 _ rfl rfl
      go_simp
      first | exact ⟨_, rfl, rfl, Below.refl _ _⟩ | exact ⟨_, rfl, congrArg Value.bool (by assumption), Below.refl _ _⟩
    · intro a W hR hoff hd
      left
      refine ⟨rfl, ?_⟩
      have e0 : a.tmps.getD 43 undef = .bool true := hd 36 _ rfl rfl
      have e1 : a.tmps.getD 47 undef = .bool true := hd 40 _ rfl rfl
      go_simp
      exact ⟨_, rfl, rfl, Below.refl _ _⟩
    · intro a W hR hoff hd
      left
      refine ⟨rfl, ?_⟩
      have e0 : a.tmps.getD 48 undef = .bool true := hd 41 _ rfl rfl
      go_simp
      exact ⟨_, rfl, rfl, Below.refl _ _⟩
    · intro a W hR hoff hd
      left
      have eg : a.tmps.getD 49 undef = .bool true := hd 42 _ rfl rfl
      refine ⟨wanted_of (ops := _) (j := 42) (b := true) rfl rfl rfl eg, ?_⟩
      clear eg
      have e0 : a.tmps.getD 1 undef = .int .i64 kd := hoff.slot 1 (no_dst (by kernel_rfl))
      go_simp
      exact ⟨_, rfl, rfl, Below.refl _ _⟩
    · intro a W hR hoff hd
      left
      have eg : a.tmps.getD 49 undef = .bool true := hd 42 _ rfl rfl
      refine ⟨wanted_of (ops := _) (j := 42) (b := true) rfl rfl rfl eg, ?_⟩
      clear eg
      have e0 : a.tmps.getD 50 undef = .int .i64 kd := hd 43 _ rfl rfl
      go_simp
      refine (HZ.out W).mono ?_
      rintro e W2 ⟨rfl, hb2⟩
      exact ⟨_, rfl, rfl, belR_of hR (Nat.le_refl _) hb2⟩
    · intro a W hR hoff hd
      left
      have eg : a.tmps.getD 49 undef = .bool true := hd 42 _ rfl rfl
      refine ⟨wanted_of (ops := _) (j := 42) (b := true) rfl rfl rfl eg, ?_⟩
      clear eg
      have e0 : a.tmps.getD 51 undef = .agg #[.int .i64 0, .int .i64 0, .string ⟨#[]⟩] := hd 44 _ rfl rfl
      have hf := fld2 0 W
      go_simp
      exact ⟨_, rfl, rfl, Below.refl _ _⟩
    · intro a W hR hoff hd
      left
      have eg : a.tmps.getD 49 undef = .bool true := hd 42 _ rfl rfl
      refine ⟨wanted_of (ops := _) (j := 42) (b := true) rfl rfl rfl eg, ?_⟩
      clear eg
      have e0 : a.tmps.getD 52 undef = .string ⟨#[]⟩ := hd 45 _ rfl rfl
      go_simp
      first | exact ⟨_, rfl, rfl, Below.refl _ _⟩ | exact ⟨_, rfl, congrArg Value.bool (by assumption), Below.refl _ _⟩
    · intro a W hR hoff hd
      left
      refine ⟨rfl, ?_⟩
      have e0 : a.tmps.getD 49 undef = .bool true := hd 42 _ rfl rfl
      have e1 : a.tmps.getD 53 undef = .bool true := hd 46 _ rfl rfl
      go_simp
      exact ⟨_, rfl, rfl, Below.refl _ _⟩
    · intro a W hR hoff hd
      left
      refine ⟨rfl, ?_⟩
      have e0 : a.tmps.getD 54 undef = .bool true := hd 47 _ rfl rfl
      go_simp
      exact ⟨_, rfl, rfl, Below.refl _ _⟩
  · intro a W hR hoff hd
    have e6 : a.tmps.getD 6 undef = .bool true := hd 48 _ rfl
    rename_i hK
    refine hK _ _ ?_
    go_wp2
    refine bodyPost_ret (results_tmp rfl _ _ _) hoff.defers ⟨by rw [e6], ?_⟩
    rw [HBZ.out]
    exact HB0.out.trans (Below.mono (und hR) HSZ0.out)
theorem may_walk (w : World) (k n : Int) (s : ByteArray) (kd : Int) (nm : ByteArray) (hn : In64 n) (hG : Glob w) :
    Calls Tryd.prog 3 #[.agg #[.int .i64 k, .int .i64 n, .string s], .int .i64 kd, .string nm] w fun e w' => e = .returned (.bool true) ∧ Below w.heap.size w w' := by
  by_cases h0 : 0 ≤ kd
  · by_cases h3 : kd ≤ 3
    · exact may_A w k n s kd nm hn hG h0 h3
    · exact may_B w k n s kd nm hn hG (by omega)
  · exact may_C w k n s kd nm hn hG (by omega)
end Go.Proofs.YtnmailhlncchmaaDoor
