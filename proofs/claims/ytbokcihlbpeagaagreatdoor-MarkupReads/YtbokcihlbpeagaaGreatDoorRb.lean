/-
  What is proved: contracts of markup's white, must, blanks and name. Conditions: those in each statement.
-/
import Derived.Test.YtbokcihlbpeagaaGreatDoorRa
import Derived.Test.YtbokcihlbpeagaaGreatDoorMm
import Derived.Deep.LoopGhost
namespace Go.Proofs.YtbokcihlbpeagaaGreatDoor
open Go.RowKit

/-- what stands from a place on -/
def tl (s : ByteArray) (k : Nat) : List UInt8 := s.data.toList.drop k
theorem tl_length (s : ByteArray) (k : Nat) : (tl s k).length = s.size - k := by unfold tl; rw [List.length_drop, size_toList]
theorem tl_drop (s : ByteArray) (k n : Nat) : (tl s k).drop n = tl s (k + n) := by unfold tl; rw [List.drop_drop]
theorem hereB_hd (s : ByteArray) (k : Nat) : hereB s k = hd (tl s k) := by
  unfold hereB tl hd
  split
  · rename_i h
    rw [nxAt_cons s k h]; rfl
  · rename_i h
    rw [List.drop_of_length_le (by rw [size_toList]; omega)]; rfl
theorem tl_nil {s : ByteArray} {k : Nat} (h : k ≤ s.size) : tl s k = [] ↔ k = s.size := by
  rw [← List.length_eq_zero_iff, tl_length]; omega
theorem hd_lt (l : List UInt8) : hd l < 256 := by unfold hd; exact UInt8.toNat_lt _
theorem here_l (w : World) (p : Nat) (s : ByteArray) (k f : Nat) (m : Value) (h : Rd w p s k f m) (hk : k ≤ s.size) (hs : s.size ≤ 65536) :
    Calls Tryz.prog 75 #[.pointer (some ⟨p, 0, none⟩)] w fun e w' => e = .returned (.int .u8 (hd (tl s k) : Int)) ∧ Rd w' p s k f m ∧ Mv p w w' := by
  rw [← hereB_hd]
  exact here_any w p s k f m h hk hs
/-- the fault of an outcome -/
def failO {α : Type} (k f : Nat) : Out α → Option (Nat × Int)
  | .ok _ _ => none
  | .bad d c => some (k + d, c)
  | .un => some (f, 84)
theorem failO_on {α : Type} (k f n : Nat) (o : Out α) : failO k f (o.on n) = failO (k + n) f o := by
  cases o with
  | ok a m => rfl
  | bad d c => simp only [Out.on, failO]; rw [show k + (d + n) = k + n + d by omega]
  | un => rfl
theorem failO_map {α β : Type} (k f : Nat) (g : α → β) (o : Out α) : failO k f (o.map g) = failO k f o := by cases o <;> rfl
theorem failO_wrong {α β : Type} (k f : Nat) (l : List UInt8) : failO k f (wrongO (α := α) l) = failO k f (wrongO (α := β) l) := by
  unfold wrongO; split <;> rfl
theorem wrong_l (w : World) (p : Nat) (s : ByteArray) (k f : Nat) (m : Value) (h : Rd w p s k f m) (hk : k ≤ s.size) (hs : s.size ≤ 65536) {x : Nat} {c : Int} (hx : Hid (failO k f (wrongO (α := Unit) (tl s k)) = some (x, c))) :
    Calls Tryz.prog 76 #[.pointer (some ⟨p, 0, none⟩)] w fun e w' => e = flt x c ∧ Mv p w w' := by
  refine (wrong_any w p s k f m h hk hs).mono ?_
  rintro e w' ⟨rfl, hm⟩
  refine ⟨?_, hm⟩
  have hx := hx.out
  unfold wrongO at hx
  by_cases h1 : k = s.size
  · rw [if_pos ((tl_nil hk).2 h1)] at hx
    rw [if_pos h1]
    obtain ⟨rfl, rfl⟩ := Prod.mk.inj (Option.some.inj hx)
    rfl
  · rw [if_neg (fun h2 => h1 ((tl_nil hk).1 h2))] at hx
    rw [if_neg h1]
    obtain ⟨rfl, rfl⟩ := Prod.mk.inj (Option.some.inj hx)
    rfl

set_option maxRecDepth 100000 in
theorem white_is (c : Nat) (b : Bool) (hb : b = isW c) (w : World) :
    Calls Tryz.prog 61 #[.int .u8 (c : Int)] w fun e w' => e = .returned (.bool b) ∧ w = w' := by
  by_cases h1 : c = 32
  · subst h1; rw [hb]
    go_enter Tryz.func61, Tryz.ntmps61
    go_wp2
    go_ret
    exact ⟨rfl, rfl⟩
  by_cases h2 : c = 9
  · subst h2; rw [hb]
    go_enter Tryz.func61, Tryz.ntmps61
    go_wp2
    go_ret
    exact ⟨rfl, rfl⟩
  by_cases h3 : c = 13
  · subst h3; rw [hb]
    go_enter Tryz.func61, Tryz.ntmps61
    go_wp2
    go_ret
    exact ⟨rfl, rfl⟩
  by_cases h4 : c = 10
  · subst h4; rw [hb]
    go_enter Tryz.func61, Tryz.ntmps61
    go_wp2
    go_ret
    exact ⟨rfl, rfl⟩
  rw [show b = false by rw [hb]; simp [isW, h1, h2, h3, h4]]
  have z1 : ((c : Int) == 32) = false := by simp; omega
  have z2 : ((c : Int) == 9) = false := by simp; omega
  have z3 : ((c : Int) == 13) = false := by simp; omega
  have z4 : ((c : Int) == 10) = false := by simp; omega
  clear h1 h2 h3 h4 hb
  go_enter Tryz.func61, Tryz.ntmps61
  go_wp2
  go_ret
  exact ⟨rfl, rfl⟩

set_option maxRecDepth 100000 in
theorem must_ok (w : World) (p : Nat) (s : ByteArray) (k f : Nat) (m : Value) (c : Nat) (h : Rd w p s k f m) (hk : k ≤ s.size) (hs : s.size ≤ 65536) (hc : hd (tl s k) = c) (hc0 : c ≠ 0) :
    Calls Tryz.prog 74 #[.pointer (some ⟨p, 0, none⟩), .int .u8 (c : Int)] w fun e w' => e = .returned (.tuple #[]) ∧ Rd w' p s (k + 1) f m ∧ Mv p w w' := by
  have HH := Lib.hid (here_l w p s k f m h hk hs)
  have hlt : k < s.size := by have := hd_ne (hc ▸ hc0); rw [tl_length] at this; omega
  subst hc
  have HS := Lib.hid hs
  clear h hs hc0
  generalize hd (tl s k) = c at *
  go_enter Tryz.func74, Tryz.ntmps74
  go_wp2_with (go_at_call 75; refine HH.out.mono ?_; rintro e w1 ⟨rfl, hr, hm⟩; have c1 := hr.c1; have z1 := hr.z 1; have HR := Lib.hid hr; have HM := Lib.hid hm; clear hr hm)
  go_end0
  exact ⟨rfl, HR.out.at1 (by have := HS.out; exact Go.IntWalk.wrap64_in _ (by omega)), HM.out.set 1 _⟩

set_option maxRecDepth 100000 in
theorem must_bad (w : World) (p : Nat) (s : ByteArray) (k f : Nat) (m : Value) (c : Nat) (h : Rd w p s k f m) (hk : k ≤ s.size) (hs : s.size ≤ 65536) (hc : hd (tl s k) ≠ c)
    {x : Nat} {y : Int} (hx : Hid (failO k f (wrongO (α := Unit) (tl s k)) = some (x, y))) :
    Calls Tryz.prog 74 #[.pointer (some ⟨p, 0, none⟩), .int .u8 (c : Int)] w fun e w' => e = flt x y ∧ Mv p w w' := by
  have HH := Lib.hid (here_l w p s k f m h hk hs)
  have HW := Lib.hid (fun W (hW : Rd W p s k f m) => wrong_l W p s k f m hW hk hs hx)
  have hne : ((hd (tl s k) : Int) != (c : Int)) = true := by simp; omega
  have HS := Lib.hid hs
  clear h hs hc hx
  generalize hd (tl s k) = b at *
  go_enter Tryz.func74, Tryz.ntmps74
  go_wp2_with (first
    | (go_at_call 75; refine HH.out.mono ?_; rintro e w1 ⟨rfl, hr, hm⟩; have HR := Lib.hid hr; have HM := Lib.hid hm; clear hr hm)
    | (go_at_call 76; refine (HW.out _ HR.out).mono ?_; rintro e w2 ⟨rfl, hm⟩))
  exact ⟨rfl, rfl, HM.out.trans hm⟩

set_option maxRecDepth 100000 in
theorem blanks_any (w : World) (p : Nat) (s : ByteArray) (k f : Nat) (m : Value) (h : Rd w p s k f m) (hk : k ≤ s.size) (hs : s.size ≤ 65536) :
    Calls Tryz.prog 73 #[.pointer (some ⟨p, 0, none⟩)] w fun e w' => e = .returned (.bool (decide (0 < wh (tl s k)))) ∧ Rd w' p s (k + wh (tl s k)) f m ∧ Mv p w w' := by
  have c1 := h.c1
  have HH := Lib.hid (fun W i (hW : Rd W p s i f m) hi => here_l W p s i f m hW hi hs)
  have HR := Lib.hid h
  have HS := Lib.hid hs
  clear h hs
  go_enter Tryz.func73, Tryz.ntmps73
  go_wp2
  go_loopg [8, 9, 10, 11, 12, 13, 14, 15, 16, 17] s.size (fun kx _ _ _ _ _ _ _ _ _ _ wr => ∃ (i : Nat), k ≤ i ∧ i ≤ s.size ∧ s.size - i ≤ kx ∧ Aside (wh (tl s k) = (i - k) + wh (tl s i)) ∧ Aside (Rd wr p s i f m) ∧ Aside (Mv p w wr))
  case atStart => exact ⟨k, Nat.le_refl _, hk, by omega, (by show _ = _; omega : Aside _), HR.out, Mv.refl _ _⟩
  case round =>
    clear HR
    obtain ⟨i, hki, hi, hkx, HI, HR, HM⟩ := hrel
    have HHi := Lib.hid (HH.out wr i HR hi)
    have c1 := HR.c1
    have z1 := HR.z 1
    cases hb : isW (hd (tl s i)) with
    | true =>
      have hlt : i < s.size := by have := isW_pos hb; rw [tl_length] at this; omega
      have HN : Aside (wh (tl s k) = (i + 1 - k) + wh (tl s (i + 1))) := by
        have h1 : wh (tl s k) = (i - k) + wh (tl s i) := HI
        have h2 := wh_hd hb
        rw [tl_drop] at h2
        show _ = _
        omega
      have HWH := Lib.hid (fun W => white_is (hd (tl s i)) true hb.symm W)
      clear hb HI
      generalize hd (tl s i) = c at *
      go_wp2_with (first
        | (go_at_call 75; refine HHi.out.mono ?_; rintro e w1 ⟨rfl, hr, hm⟩; have c1 := hr.c1; have z1 := hr.z 1; have HR1 := Lib.hid hr; have HM1 := Lib.hid hm; clear hr hm)
        | (go_at_call 61; refine (HWH.out _).mono ?_; rintro e w2 ⟨rfl, rfl⟩))
      go_roundg (s.size - (i + 1))
      case measure => omega
      case rel => exact ⟨i + 1, by omega, hlt, Nat.le_refl _, HN, HR1.out.at1 (by have := HS.out; exact Go.IntWalk.wrap64_in _ (by omega)), (Mv.trans HM HM1.out).set 1 _⟩
    | false =>
      have h0 := wh_no hb
      have h1 : wh (tl s k) = i - k := by have h1 : wh (tl s k) = (i - k) + wh (tl s i) := HI; omega
      have HWH := Lib.hid (fun W => white_is (hd (tl s i)) false hb.symm W)
      have HK : Hid (k + wh (tl s k) = i) := Lib.hid (by omega)
      have HD : Hid (decide (0 < wh (tl s k)) = decide (k < i)) := Lib.hid (by rw [h1]; exact decide_eq_decide.2 (by omega))
      clear hb HI h0 h1
      generalize hd (tl s i) = c at *
      go_wp2_with (first
        | (go_at_call 75; refine HHi.out.mono ?_; rintro e w1 ⟨rfl, hr, hm⟩; have c1 := hr.c1; have z1 := hr.z 1; have HR1 := Lib.hid hr; have HM1 := Lib.hid hm; clear hr hm)
        | (go_at_call 61; refine (HWH.out _).mono ?_; rintro e w2 ⟨rfl, rfl⟩))
      go_ret
      exact ⟨by rw [HD.out]; rfl, by rw [HK.out]; exact HR1.out, Mv.trans HM HM1.out⟩
end Go.Proofs.YtbokcihlbpeagaaGreatDoor
