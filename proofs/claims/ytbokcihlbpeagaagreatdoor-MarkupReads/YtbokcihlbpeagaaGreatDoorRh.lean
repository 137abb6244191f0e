/-
  What is proved: contracts of markup's reference and piece. Conditions: those in each statement.
-/
import Derived.Test.YtbokcihlbpeagaaGreatDoorRg
import Derived.Deep.QuietTactic
import Derived.BigQuiet
namespace Go.Proofs.YtbokcihlbpeagaaGreatDoor
open Go.RowKit

/-- what a reading call does: it goes on, or gives up at a place -/
def RdPost {α : Type} (w : World) (p : Nat) (s : ByteArray) (k f : Nat) (m : Value) (o : Out α) (val : α → Value) (e : Ending) (w' : World) : Prop := match o with
  | .ok a n => e = .returned (val a) ∧ Rd w' p s (k + n) f m ∧ Mv p w w'
  | .bad d c => e = flt (k + d) c ∧ Mv p w w'
  | .un => e = flt f 84 ∧ Mv p w w'
theorem RdPost.fail {α : Type} {w w' : World} {p k f : Nat} {s : ByteArray} {m : Value} {o : Out α} {val : α → Value} {x : Nat} {c : Int} (hx : failO k f o = some (x, c)) (hm : Mv p w w') : RdPost w p s k f m o val (flt x c) w' := by
  cases o with
  | ok a n => cases hx
  | bad d c => cases hx; exact ⟨rfl, hm⟩
  | un => cases hx; exact ⟨rfl, hm⟩
theorem RdPost.is_ok {α : Type} {P : Program} {g : FuncId} {args : Array Value} {w : World} {p k f : Nat} {s : ByteArray} {m : Value} {o : Out α} {val : α → Value} (h : Calls P g args w (RdPost w p s k f m o val)) {a : α} {n : Nat} (ho : o = .ok a n) :
    Calls P g args w fun e w' => e = .returned (val a) ∧ Rd w' p s (k + n) f m ∧ Mv p w w' := by subst ho; exact h
theorem RdPost.is_fail {α : Type} {P : Program} {g : FuncId} {args : Array Value} {w : World} {p k f : Nat} {s : ByteArray} {m : Value} {o : Out α} {val : α → Value} (h : Calls P g args w (RdPost w p s k f m o val)) {x : Nat} {c : Int} (ho : failO k f o = some (x, c)) :
    Calls P g args w fun e w' => e = flt x c ∧ Mv p w w' := by
  refine h.mono ?_
  intro e w' hp
  cases o with
  | ok a n => cases ho
  | bad d c => cases ho; exact hp
  | un => cases ho; exact hp
abbrev strV (l : List UInt8) : Value := .string ⟨l.toArray⟩
theorem ext_tl (s : ByteArray) (k : Nat) (_hk : k ≤ s.size) : (s.extract k s.size).data.toList = tl s k := by
  rw [Lib.extract_data]; unfold tl; rw [List.take_of_length_le (by rw [List.length_drop, size_toList]; omega)]

theorem Rd.drewN {w : World} {p : Nat} {s : ByteArray} {k f : Nat} {m : Value} (h : Rd w p s k f m) (n : Nat) : Rd (w.drewN n) p s k f m := h
theorem Mv.drewN {p : Nat} {a b : World} (h : Mv p a b) (n : Nat) : Mv p a (b.drewN n) := ⟨h.os, h.tape, h.output, h.size, h.block⟩
theorem Rd.lt {w : World} {p : Nat} {s : ByteArray} {k f : Nat} {m : Value} (h : Rd w p s k f m) : p < w.heap.size := by
  rcases Nat.lt_or_ge p w.heap.size with h' | h'
  · exact h'
  · unfold Rd at h; simp [Array.getElem?_eq_none h'] at h
theorem Rd.below {w w' : World} {p B : Nat} {s : ByteArray} {k f : Nat} {m : Value} (h : Rd w p s k f m) (hb : Below B w w') (hp : p < B) : Rd w' p s k f m := by
  unfold Rd at h ⊢; rw [hb.block p hp]; exact h
theorem Mv.below {a b c : World} {p B : Nat} (h : Mv p a b) (hb : Below B b c) (hB : a.heap.size ≤ B) : Mv p a c :=
  ⟨hb.os.trans h.os, hb.tape.trans h.tape, hb.output.trans h.output, Nat.le_trans h.size hb.size, fun x hx hn => (hb.block x (by omega)).trans (h.block x hx hn)⟩
theorem cut_yes {l p : List UInt8} (h : 0 ≤ Lib.index l p) : Lib.cut l p = (l.take (Lib.index l p).toNat, l.drop ((Lib.index l p).toNat + p.length), true) := by unfold Lib.cut; rw [if_pos h]
theorem cut_no {l p : List UInt8} (h : ¬ 0 ≤ Lib.index l p) : Lib.cut l p = (l, [], false) := by unfold Lib.cut; rw [if_neg h]

set_option maxRecDepth 100000 in
theorem reference_ok (w : World) (p : Nat) (s : ByteArray) (k f : Nat) (m : Value) (h : Rd w p s k f m) (hG : Glob w) (_hp : 9 ≤ p) (hk : k ≤ s.size) (hs : s.size ≤ 65536)
    (b : List UInt8) (M : List UInt8) (hb : b.length < s.size - k) (X : List UInt8) (hc : Lib.cut (tl s k) [59] = (b, X, true)) (hM : mean b = M) (hne : M ≠ []) :
    Calls Tryz.prog 91 #[.pointer (some ⟨p, 0, none⟩)] w (fun e w' => e = .returned (strV M) ∧ Rd w' p s (k + (b.length + 1)) f m ∧ Mv p w w') := by
  obtain ⟨mx, hmx⟩ := hG.mx
  have c0 := h.c0
  have c1 := h.c1
  have z1 := h.z 1
  have HCut := Lib.hid (fun n => Tryz.strings_Cut (s.extract k s.size) ⟨#[59]⟩ mx (w.drewN n) (by rw [← size_toList, ext_tl s k hk, tl_length]; omega) hmx)
  rw [ext_tl s k hk, show (⟨#[59]⟩ : ByteArray).data.toList = [59] from rfl, hc] at HCut
  have HMean := Lib.hid (fun n => meaning_any ⟨b.toArray⟩ (w.drewN n) (hG.drewN n))
  rw [show (⟨b.toArray⟩ : ByteArray).data.toList = b by simp, hM] at HMean
  have HP : Hid (p < w.heap.size) := Lib.hid h.lt
  have HR := Lib.hid h
  have HL : Hid (b.length < s.size - k ∧ s.size ≤ 65536 ∧ k ≤ s.size) := Lib.hid ⟨hb, hs, hk⟩
  obtain ⟨b0, M0, rfl⟩ : ∃ b0 M0, M = b0 :: M0 := by cases M with
    | nil => exact absurd rfl hne
    | cons x y => exact ⟨x, y, rfl⟩
  clear h hG hmx hc hM hne hb hs
  go_enter Tryz.func91, Tryz.ntmps91
  go_wp2
  go_quiet ((go_at_call 80; exact Calls.quiet_of (HCut.out _)))
  go_wp2_with (go_at_call 98; refine (HMean.out _).mono ?_; rintro e w2 ⟨rfl, hb2⟩; have hR2 := (HR.out.drewN nq).below hb2 HP.out; have c1' := hR2.c1; have z1' := hR2.z 1; have HR2 := Lib.hid hR2; have HB2 := Lib.hid hb2; clear hb2 hR2)
  go_ret
  exact ⟨rfl, HR2.out.at1 (by have := HL.out; rw [Go.IntWalk.wrap64_in ((b.length : Int) + 1) (by omega), Go.IntWalk.wrap64_in _ (by omega)]; push_cast; rfl), ((Mv.refl p w).drewN nq |>.below HB2.out (Nat.le_refl _)).set 1 _⟩

set_option maxRecDepth 100000 in
theorem reference_no (w : World) (p : Nat) (s : ByteArray) (k f : Nat) (m : Value) (h : Rd w p s k f m) (hG : Glob w) (_hp : 9 ≤ p) (hk : k ≤ s.size) (hs : s.size ≤ 65536)
    (b : List UInt8) (M : List UInt8) (X : List UInt8) (hc : Lib.cut (tl s k) [59] = (b, X, false)) (hM : mean b = M) :
    Calls Tryz.prog 91 #[.pointer (some ⟨p, 0, none⟩)] w (fun e w' => e = flt k 83 ∧ Mv p w w') := by
  obtain ⟨mx, hmx⟩ := hG.mx
  have c0 := h.c0
  have c1 := h.c1
  have HCut := Lib.hid (fun n => Tryz.strings_Cut (s.extract k s.size) ⟨#[59]⟩ mx (w.drewN n) (by rw [← size_toList, ext_tl s k hk, tl_length]; omega) hmx)
  rw [ext_tl s k hk, show (⟨#[59]⟩ : ByteArray).data.toList = [59] from rfl, hc] at HCut
  have HMean := Lib.hid (fun n => meaning_any ⟨b.toArray⟩ (w.drewN n) (hG.drewN n))
  rw [show (⟨b.toArray⟩ : ByteArray).data.toList = b by simp, hM] at HMean
  have HP : Hid (p < w.heap.size) := Lib.hid h.lt
  have HR := Lib.hid h
  clear h hG hmx hc hM hs
  go_enter Tryz.func91, Tryz.ntmps91
  go_wp2
  go_quiet ((go_at_call 80; exact Calls.quiet_of (HCut.out _)))
  go_wp2_with (go_at_call 98; refine (HMean.out _).mono ?_; rintro e w2 ⟨rfl, hb2⟩; have hR2 := (HR.out.drewN nq).below hb2 HP.out; have c1' := hR2.c1; have HB2 := Lib.hid hb2; clear hb2 hR2)
  exact ⟨rfl, rfl, (Mv.refl p w).drewN nq |>.below HB2.out (Nat.le_refl _)⟩

set_option maxRecDepth 100000 in
theorem reference_nil (w : World) (p : Nat) (s : ByteArray) (k f : Nat) (m : Value) (h : Rd w p s k f m) (hG : Glob w) (_hp : 9 ≤ p) (hk : k ≤ s.size) (hs : s.size ≤ 65536)
    (b : List UInt8) (X : List UInt8) (hc : Lib.cut (tl s k) [59] = (b, X, true)) (hM : mean b = []) :
    Calls Tryz.prog 91 #[.pointer (some ⟨p, 0, none⟩)] w (fun e w' => e = flt k 83 ∧ Mv p w w') := by
  obtain ⟨mx, hmx⟩ := hG.mx
  have c0 := h.c0
  have c1 := h.c1
  have HCut := Lib.hid (fun n => Tryz.strings_Cut (s.extract k s.size) ⟨#[59]⟩ mx (w.drewN n) (by rw [← size_toList, ext_tl s k hk, tl_length]; omega) hmx)
  rw [ext_tl s k hk, show (⟨#[59]⟩ : ByteArray).data.toList = [59] from rfl, hc] at HCut
  have HMean := Lib.hid (fun n => meaning_any ⟨b.toArray⟩ (w.drewN n) (hG.drewN n))
  rw [show (⟨b.toArray⟩ : ByteArray).data.toList = b by simp, hM] at HMean
  have HP : Hid (p < w.heap.size) := Lib.hid h.lt
  have HR := Lib.hid h
  clear h hG hmx hc hM hs
  go_enter Tryz.func91, Tryz.ntmps91
  go_wp2
  go_quiet ((go_at_call 80; exact Calls.quiet_of (HCut.out _)))
  go_wp2_with (go_at_call 98; refine (HMean.out _).mono ?_; rintro e w2 ⟨rfl, hb2⟩; have hR2 := (HR.out.drewN nq).below hb2 HP.out; have c1' := hR2.c1; have HB2 := Lib.hid hb2; clear hb2 hR2)
  exact ⟨rfl, rfl, (Mv.refl p w).drewN nq |>.below HB2.out (Nat.le_refl _)⟩

theorem reference_any (w : World) (p : Nat) (s : ByteArray) (k f : Nat) (m : Value) (h : Rd w p s k f m) (hG : Glob w) (hp : 9 ≤ p) (hk : k ≤ s.size) (hs : s.size ≤ 65536) :
    Calls Tryz.prog 91 #[.pointer (some ⟨p, 0, none⟩)] w (RdPost w p s k f m (refO (tl s k)) strV) := by
  by_cases h0 : 0 ≤ Lib.index (tl s k) [59]
  · by_cases hM : mean ((tl s k).take (Lib.index (tl s k) [59]).toNat) = []
    · rw [show refO (tl s k) = .bad 0 83 by unfold refO; rw [if_neg (fun h => h.2 hM)]]
      exact reference_nil w p s k f m h hG hp hk hs _ _ (cut_yes h0) hM
    · rw [show refO (tl s k) = .ok (mean ((tl s k).take (Lib.index (tl s k) [59]).toNat)) ((Lib.index (tl s k) [59]).toNat + 1) by unfold refO; rw [if_pos ⟨h0, hM⟩]]
      have hr := Lib.index_room (tl s k) [59] h0
      rw [tl_length] at hr
      simp only [List.length_singleton] at hr
      have hl : ((tl s k).take (Lib.index (tl s k) [59]).toNat).length = (Lib.index (tl s k) [59]).toNat := by rw [List.length_take, tl_length]; omega
      have := reference_ok w p s k f m h hG hp hk hs ((tl s k).take (Lib.index (tl s k) [59]).toNat) _ (by rw [hl]; omega) _ (cut_yes h0) rfl hM
      rw [hl] at this
      exact this
  · rw [show refO (tl s k) = .bad 0 83 by unfold refO; rw [if_neg (fun h => h0 h.1)]]
    exact reference_no w p s k f m h hG hp hk hs _ _ _ (cut_no h0) rfl

/-- what stands at a place, as a text of one byte -/
theorem ext_one (s : ByteArray) (k : Nat) (_hk : k < s.size) : (s.extract k (k + 1)) = ⟨((tl s k).take 1).toArray⟩ := by
  apply str_of
  rw [Lib.extract_data]; unfold tl; rw [Nat.add_sub_cancel_left]

set_option maxRecDepth 100000 in
theorem piece_any (w : World) (p : Nat) (s : ByteArray) (k f : Nat) (m : Value) (h : Rd w p s k f m) (hG : Glob w) (hp : 9 ≤ p) (hk : k < s.size) (hs : s.size ≤ 65536) :
    Calls Tryz.prog 78 #[.pointer (some ⟨p, 0, none⟩)] w (RdPost w p s k f m (pieceO (tl s k)) strV) := by
  have HH := Lib.hid (here_l w p s k f m h (Nat.le_of_lt hk) hs)
  have HG := Lib.hid hG
  by_cases h1 : hd (tl s k) = 38
  · rw [show pieceO (tl s k) = refO (tl s k) by unfold pieceO; rw [if_pos h1]]
    rw [h1] at HH
    have HREF := Lib.hid (fun W hW hgW => reference_any W p s k f m hW hgW hp (Nat.le_of_lt hk) hs)
    clear hG h h1
    generalize refO (tl s k) = o at *
    cases o with
    | ok a n =>
      go_enter Tryz.func78, Tryz.ntmps78
      go_wp2_with (first
        | (go_at_call 75; refine HH.out.mono ?_; rintro e w1 ⟨rfl, hr, hm⟩; have HR := Lib.hid hr; have HM := Lib.hid hm; clear hr hm)
        | (go_at_call 91; refine (RdPost.is_ok (HREF.out _ HR.out (HG.out.mv HM.out hp)) rfl).mono ?_; rintro e w2 ⟨rfl, hr, hm⟩; have HR2 := Lib.hid hr; have HM2 := Lib.hid hm; clear hr hm))
      go_ret
      exact ⟨rfl, HR2.out, HM.out.trans HM2.out⟩
    | bad d c =>
      go_enter Tryz.func78, Tryz.ntmps78
      go_wp2_with (first
        | (go_at_call 75; refine HH.out.mono ?_; rintro e w1 ⟨rfl, hr, hm⟩; have HR := Lib.hid hr; have HM := Lib.hid hm; clear hr hm)
        | (go_at_call 91; refine (RdPost.is_fail (HREF.out _ HR.out (HG.out.mv HM.out hp)) rfl).mono ?_; rintro e w2 ⟨rfl, hm⟩; have HM2 := Lib.hid hm; clear hm))
      exact ⟨rfl, rfl, HM.out.trans HM2.out⟩
    | un =>
      go_enter Tryz.func78, Tryz.ntmps78
      go_wp2_with (first
        | (go_at_call 75; refine HH.out.mono ?_; rintro e w1 ⟨rfl, hr, hm⟩; have HR := Lib.hid hr; have HM := Lib.hid hm; clear hr hm)
        | (go_at_call 91; refine (RdPost.is_fail (HREF.out _ HR.out (HG.out.mv HM.out hp)) rfl).mono ?_; rintro e w2 ⟨rfl, hm⟩; have HM2 := Lib.hid hm; clear hm))
      exact ⟨rfl, rfl, HM.out.trans HM2.out⟩
  by_cases h2 : hd (tl s k) = 13
  · have HH2 := Lib.hid (fun W hW => here_l W p s (k + 1) f m hW hk hs)
    have HS := Lib.hid hs
    rw [← tl_drop s k 1] at HH2
    by_cases h3 : hd ((tl s k).drop 1) = 10
    · rw [show pieceO (tl s k) = .ok [10] 2 by unfold pieceO; rw [if_neg h1, if_pos h2, if_pos h3]]
      rw [h2] at HH
      rw [h3] at HH2
      clear hG h h1 h2 h3 hs
      go_enter Tryz.func78, Tryz.ntmps78
      go_wp2_with (first
        | (go_at_call 75; ((with_reducible refine HH.out.mono ?_); rintro e w1 ⟨rfl, hr, hm⟩; have c1 := hr.c1; have z1 := hr.z 1; have HR := Lib.hid hr; have HM := Lib.hid hm; clear hr hm))
        | (go_at_call 75; ((refine (HH2.out _ (HR.out.at1 (Go.IntWalk.wrap64_in _ (by have := HS.out; omega)))).mono ?_); rintro e w2 ⟨rfl, hr, hm⟩; have c2 := hr.c1; have z2 := hr.z 1; have HR2 := Lib.hid hr; have HM2 := Lib.hid hm; clear hr hm)))
      go_ret
      exact ⟨rfl, HR2.out.at1 (by have := HS.out; rw [Go.IntWalk.wrap64_in _ (by omega)]; push_cast; omega), ((HM.out.set 1 _).trans HM2.out).set 1 _⟩
    · rw [show pieceO (tl s k) = .ok [10] 1 by unfold pieceO; rw [if_neg h1, if_pos h2, if_neg h3]]
      rw [h2] at HH
      have n3 : ((hd ((tl s k).drop 1) : Int) == 10) = false := beq_eq_false_iff_ne.2 (by omega)
      clear hG h h1 h2 h3 hs
      generalize hd ((tl s k).drop 1) = c at *
      go_enter Tryz.func78, Tryz.ntmps78
      go_wp2_with (first
        | (go_at_call 75; ((with_reducible refine HH.out.mono ?_); rintro e w1 ⟨rfl, hr, hm⟩; have c1 := hr.c1; have z1 := hr.z 1; have HR := Lib.hid hr; have HM := Lib.hid hm; clear hr hm))
        | (go_at_call 75; ((refine (HH2.out _ (HR.out.at1 (Go.IntWalk.wrap64_in _ (by have := HS.out; omega)))).mono ?_); rintro e w2 ⟨rfl, hr, hm⟩; have c2 := hr.c1; have z2 := hr.z 1; have HR2 := Lib.hid hr; have HM2 := Lib.hid hm; clear hr hm)))
      go_ret
      exact ⟨rfl, HR2.out, (HM.out.set 1 _).trans HM2.out⟩
  · rw [show pieceO (tl s k) = .ok ((tl s k).take 1) 1 by unfold pieceO; rw [if_neg h1, if_neg h2]]
    have n1 : ((hd (tl s k) : Int) == 38) = false := by simp; omega
    have n2 : ((hd (tl s k) : Int) == 13) = false := by simp; omega
    have HE := Lib.hid (ext_one s k hk)
    have hk2 : (k : Int) + 1 ≤ (s.size : Int) := by omega
    have HS := Lib.hid hs
    have kw : wrap64 ((k : Int) + 1) = (k : Int) + 1 := Go.IntWalk.wrap64_in _ (by omega)
    have kw2 : wrap64 ((k : Int) + 1 - 1) = (k : Int) := by rw [Go.IntWalk.wrap64_in _ (by omega)]; omega
    have kw3 : IntKind.i64.wrap (k : Int) = (k : Int) := Go.IntWalk.i64_in _ ⟨by omega, by omega⟩
    have kn : ((k : Int) + 1).toNat = k + 1 := by omega
    have k0 : (0 : Int) ≤ (k : Int) := by omega
    have k1 : (0 : Int) ≤ (k : Int) + 1 := by omega
    have k2 : (k : Int) ≤ (k : Int) + 1 := by omega
    clear hG h h1 h2 hs
    generalize hd (tl s k) = c at *
    go_enter Tryz.func78, Tryz.ntmps78
    go_wp2_with (go_at_call 75; ((with_reducible refine HH.out.mono ?_); rintro e w1 ⟨rfl, hr, hm⟩; have c0 := hr.c0; have c1 := hr.c1; have z1 := hr.z 1; have HR := Lib.hid hr; have HM := Lib.hid hm; clear hr hm))
    go_quiet (fail)
    go_wp2
    go_ret
    exact ⟨congrArg (fun x => Ending.returned (Value.string x)) HE.out, (HR.out.at1 (by push_cast; rfl)).drewN _, (HM.out.set 1 _).drewN _⟩
end Go.Proofs.YtbokcihlbpeagaaGreatDoor
