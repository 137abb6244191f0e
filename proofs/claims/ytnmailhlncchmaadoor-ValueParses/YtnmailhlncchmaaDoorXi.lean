/-
  What is proved: ValueParses answers true, whatever its input (its walk). Conditions: those in each statement.
-/
import Derived.Test.YtnmailhlncchmaaDoorXu
import Derived.Test.YtnmailhlncchmaaDoorXk
namespace Go.Proofs.YtnmailhlncchmaaDoor
open Go.RowKit

set_option maxHeartbeats 16000000 in
set_option maxRecDepth 100000 in
theorem parses_some (w : World) (s : ByteArray) (hs : s.size ≤ 140737488351232) (hG : Glob w) (k n : Int) (t : ByteArray) (hp : parV s.data.toList = some ⟨k, n, t⟩) :
    Calls Tryd.prog 4 #[.string s] w fun e w' => e = .returned (.bool true) ∧ Below w.heap.size w w' := by
  have hin : In64 n := par_in hp
  have hpr := ((par_iff (v := ⟨k, n, t⟩) hin).1 hp).2
  have HPA := Lib.hid (fun W hW => parse_any W s hW)
  have HDP := Lib.hid (fun W => dParse_any W s hs)
  have HPR := Lib.hid (fun W hW => print_any W k n t hin hW)
  rw [hp] at HPA HDP
  rw [hpr, show (⟨s.data.toList.toArray⟩ : ByteArray) = s from ba_ext rfl] at HPR
  have HG := Lib.hid hG
  clear hG hp hpr hin
  go_enter Tryd.func4, Tryd.ntmps4
  go_wp2_with (first
    | (go_at_call 12; refine (HPR.out _ (HG.out.below HB3.out HG.out.size)).mono ?_; rintro e w4 ⟨rfl, hb4⟩; have HB4 := Lib.hid (HB3.out.trans (hb4.mono HB3.out.size)); clear hb4)
    | (go_at_call 9; refine (awake_any _ (HG.out.below (HB2.out.alloc HB2.out.size (.cells #[.int .i64 k, .int .i64 n, .string t] 23 (0, 0))) HG.out.size)).mono ?_; rintro e w3 ⟨rfl, hb3⟩; have hx3 := (HX2.out.alloc (.cells #[.int .i64 k, .int .i64 n, .string t] 23 (0, 0))).below hb3 (by have := HX2.out.lt; simp; omega); have hy3 := (Bx.new w2 23 #[.int .i64 k, .int .i64 n, .string t]).below hb3 (by simp); have c0 := hx3.c (j := 0) rfl; have c1 := hx3.c (j := 1) rfl; have c2 := hx3.c (j := 2) rfl; have d0 := hy3.c (j := 0) rfl; have d1 := hy3.c (j := 1) rfl; have d2 := hy3.c (j := 2) rfl; have HB3 := Lib.hid ((HB2.out.alloc HB2.out.size (.cells #[.int .i64 k, .int .i64 n, .string t] 23 (0, 0))).trans (hb3.mono (by have := HB2.out.size; simp; omega))); clear hb3 hx3 hy3)
    | (go_at_call 18; refine (HDP.out _).mono ?_; rintro e w2 ⟨rfl, hb2⟩; have HX2 := Lib.hid ((Bx.new w1 23 #[.int .i64 k, .int .i64 n, .string t]).below hb2 (by simp)); have HB2 := Lib.hid ((HB1.out.alloc HB1.out.size (.cells #[.int .i64 k, .int .i64 n, .string t] 23 (0, 0))).trans (hb2.mono (by have := HB1.out.size; simp; omega))); clear hb2)
    | (go_at_call 17; refine (HPA.out _ HG.out).mono ?_; rintro e w1 ⟨rfl, hb1⟩; have HB1 := Lib.hid hb1; clear hb1; simp only [oV, Option.getD_some, Option.isSome_some]))
  go_ret
  exact ⟨rfl, HB4.out⟩
set_option maxHeartbeats 16000000 in
set_option maxRecDepth 100000 in
theorem parses_none (w : World) (s : ByteArray) (hs : s.size ≤ 140737488351232) (hG : Glob w) (hp : parV s.data.toList = none) :
    Calls Tryd.prog 4 #[.string s] w fun e w' => e = .returned (.bool true) ∧ Below w.heap.size w w' := by
  have HPA := Lib.hid (fun W hW => parse_any W s hW)
  have HDP := Lib.hid (fun W => dParse_any W s hs)
  rw [hp] at HPA HDP
  have HG := Lib.hid hG
  clear hG hp
  go_enter Tryd.func4, Tryd.ntmps4
  go_wp2_with (first
    | (go_at_call 9; refine (awake_any _ (HG.out.below (HB2.out.alloc HB2.out.size (.cells #[.int .i64 0, .int .i64 0, .string ⟨#[]⟩] 23 (0, 0))) HG.out.size)).mono ?_; rintro e w3 ⟨rfl, hb3⟩; have hx3 := (HX2.out.alloc (.cells #[.int .i64 0, .int .i64 0, .string ⟨#[]⟩] 23 (0, 0))).below hb3 (by have := HX2.out.lt; simp; omega); have hy3 := (Bx.new w2 23 #[.int .i64 0, .int .i64 0, .string ⟨#[]⟩]).below hb3 (by simp); have c0 := hx3.c (j := 0) rfl; have c1 := hx3.c (j := 1) rfl; have c2 := hx3.c (j := 2) rfl; have d0 := hy3.c (j := 0) rfl; have d1 := hy3.c (j := 1) rfl; have d2 := hy3.c (j := 2) rfl; have HB3 := Lib.hid ((HB2.out.alloc HB2.out.size (.cells #[.int .i64 0, .int .i64 0, .string ⟨#[]⟩] 23 (0, 0))).trans (hb3.mono (by have := HB2.out.size; simp; omega))); clear hb3 hx3 hy3)
    | (go_at_call 18; refine (HDP.out _).mono ?_; rintro e w2 ⟨rfl, hb2⟩; have HX2 := Lib.hid ((Bx.new w1 23 #[.int .i64 0, .int .i64 0, .string ⟨#[]⟩]).below hb2 (by simp)); have HB2 := Lib.hid ((HB1.out.alloc HB1.out.size (.cells #[.int .i64 0, .int .i64 0, .string ⟨#[]⟩] 23 (0, 0))).trans (hb2.mono (by have := HB1.out.size; simp; omega))); clear hb2)
    | (go_at_call 17; refine (HPA.out _ HG.out).mono ?_; rintro e w1 ⟨rfl, hb1⟩; have HB1 := Lib.hid hb1; clear hb1; simp only [oV, Option.getD_none, Option.isSome_none]))
  go_ret
  exact ⟨rfl, HB3.out⟩
theorem parses_walk (w : World) (s : ByteArray) (hs : s.size ≤ 140737488351232) (hG : Glob w) :
    Calls Tryd.prog 4 #[.string s] w fun e w' => e = .returned (.bool true) ∧ Below w.heap.size w w' := by
  cases hp : parV s.data.toList with
  | some v => obtain ⟨k, n, t⟩ := v; exact parses_some w s hs hG k n t hp
  | none => exact parses_none w s hs hG hp
end Go.Proofs.YtnmailhlncchmaaDoor
