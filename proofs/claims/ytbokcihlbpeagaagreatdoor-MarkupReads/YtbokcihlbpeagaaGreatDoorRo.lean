/-
  What is proved: contracts of markup's comment, endTag and text. Conditions: those in each statement.
-/
import Derived.Test.YtbokcihlbpeagaaGreatDoorRn
import Derived.Test.YtbokcihlbpeagaaGreatDoorMp
namespace Go.Proofs.YtbokcihlbpeagaaGreatDoor
open Go.RowKit

/-- a reader that has told these marks -/
def St (w : World) (B p : Nat) (s : ByteArray) (k f : Nat) (ms : List Mk) : Prop := ∃ mv zs, zs.map Prod.fst = ms ∧ Rd w p s k f mv ∧ MR w B mv zs
/-- what a way of the reader does -/
def DcPost (w : World) (B p : Nat) (s : ByteArray) (k f : Nat) (ms : List Mk) (o : Out (Option Mk)) (e : Ending) (w' : World) : Prop := match o with
  | .ok x n => e = .returned (.tuple #[]) ∧ St w' B p s (k + n) f (ms ++ x.toList) ∧ Mq p B w w'
  | .bad d c => e = flt (k + d) c ∧ Mq p B w w'
  | .un => e = flt f 84 ∧ Mq p B w w'
theorem DcPost.fail {w w' : World} {B p k f : Nat} {s : ByteArray} {ms : List Mk} {o : Out (Option Mk)} {x : Nat} {c : Int} (hx : failO k f o = some (x, c)) (hm : Mq p B w w') : DcPost w B p s k f ms o (flt x c) w' := by
  cases o with
  | ok a n => cases hx
  | bad d c => cases hx; exact ⟨rfl, hm⟩
  | un => cases hx; exact ⟨rfl, hm⟩
theorem Mv.toB {a b : World} {p B : Nat} (h : Mv p a b) (hB : B ≤ p) (hs : B ≤ a.heap.size) : Below B a b := ⟨h.os, h.tape, h.output, h.size, fun x hx => h.block x (by omega) (by omega)⟩
theorem St.lt {w : World} {B p : Nat} {s : ByteArray} {k f : Nat} {ms : List Mk} (h : St w B p s k f ms) : p < w.heap.size := by obtain ⟨_, _, _, h, _⟩ := h; exact h.lt
theorem hereQ (w : World) (p : Nat) (s : ByteArray) (k f : Nat) (m : Value) (h : Rd w p s k f m) (hk : k ≤ s.size) :
    Calls Tryz.prog 75 #[.pointer (some ⟨p, 0, none⟩)] w fun e w' => e = .returned (.int .u8 (hd (tl s k) : Int)) ∧ ∃ n, w' = w.drewN n := by
  rw [← hereB_hd]
  have c0 := h.c0
  have c1 := h.c1
  clear h
  by_cases hk2 : k < s.size
  · have HB := Lib.hid (hereB_at hk2)
    have hne : ¬ (k : Int) = (s.size : Int) := by omega
    go_enter Tryz.func75, Tryz.ntmps75
    go_wp2
    go_region
    go_wp2
    go_region
    go_wp2
    go_ret
    exact ⟨by rw [HB.out]; rfl, 2, rfl⟩
  · have HB := Lib.hid (hereB_end (Nat.le_of_not_lt hk2))
    have hne : (k : Int) = (s.size : Int) := by omega
    obtain rfl : k = s.size := by omega
    go_enter Tryz.func75, Tryz.ntmps75
    go_wp2
    go_region
    go_wp2
    go_ret
    exact ⟨by rw [HB.out]; rfl, 1, rfl⟩
set_option maxHeartbeats 4000000 in
set_option maxRecDepth 100000 in
theorem comment_any (w : World) (B p : Nat) (s : ByteArray) (k f : Nat) (ms : List Mk) (h : St w B p s k f ms) (hG : Glob w) (hp : 9 ≤ p) (hB : B ≤ w.heap.size) (hk : k ≤ s.size) (hs : s.size ≤ 65536) (hn : ms.length ≤ 65536) :
    Calls Tryz.prog 55 #[.pointer (some ⟨p, 0, none⟩)] w (DcPost w B p s k f ms ((upO [45, 45, 62] (tl s k)).map fun _ => none)) := by
  obtain ⟨mv, zs, hz, hr0, hm0⟩ := h
  have hsz : Hid (p < w.heap.size ∧ 9 ≤ p ∧ s.size ≤ 65536 ∧ B ≤ w.heap.size ∧ zs.length ≤ 65536) := Lib.hid ⟨hr0.lt, hp, hs, hB, by rw [← hz, List.length_map] at hn; exact hn⟩
  have HU := Lib.hid (upTo_any w p s k f mv ⟨#[45, 45, 62]⟩ (by decide) hr0 hG hk hs)
  rw [show (⟨#[45, 45, 62]⟩ : ByteArray).data.toList = [45, 45, 62] from rfl] at HU
  have HR := Lib.hid hr0
  have HM := Lib.hid hm0
  have HZ := Lib.hid hz
  clear hr0 hm0 hz hG hs hp hB hn
  generalize upO [45, 45, 62] (tl s k) = o at *
  cases o with
  | ok a n =>
    go_enter Tryz.func55, Tryz.ntmps55
    go_wp2_with (go_at_call 62; refine (RdPost.is_ok HU.out rfl).mono ?_; rintro e w2 ⟨rfl, hr, hm⟩; have HR2 := Lib.hid hr; have HM2 := Lib.hid hm; clear hr hm)
    go_end0
    have hq := hsz.out
    exact ⟨rfl, ⟨mv, zs, by rw [HZ.out]; simp, HR2.out, HM.out.mv HM2.out HR.out⟩, HM2.out.toQ⟩
  | bad d c =>
    go_enter Tryz.func55, Tryz.ntmps55
    go_wp2_with (go_at_call 62; refine (RdPost.is_fail HU.out rfl).mono ?_; rintro e w2 ⟨rfl, hm⟩; have HM2 := Lib.hid hm; clear hm)
    have hq := hsz.out
    exact ⟨rfl, rfl, HM2.out.toQ⟩
  | un =>
    go_enter Tryz.func55, Tryz.ntmps55
    go_wp2_with (go_at_call 62; refine (RdPost.is_fail HU.out rfl).mono ?_; rintro e w2 ⟨rfl, hm⟩; have HM2 := Lib.hid hm; clear hm)
    have hq := hsz.out
    exact ⟨rfl, rfl, HM2.out.toQ⟩

theorem none_apart {zs : List (Mk × Value)} {v : Value} (hv : v.ownBlock = none) : ∀ z ∈ zs, z.2.ownBlock = none ∨ z.2.ownBlock ≠ v.ownBlock := by
  intro z _
  rw [hv]
  cases z.2.ownBlock with
  | none => exact .inl rfl
  | some b => exact .inr (by simp)
set_option maxHeartbeats 4000000 in
set_option maxRecDepth 100000 in
theorem endTag_f1 (w : World) (B p : Nat) (s : ByteArray) (k f : Nat) (ms : List Mk) (h : St w B p s k f ms) (hG : Glob w) (hp : 9 ≤ p) (hB : B ≤ w.heap.size) (hk : k ≤ s.size) (hs : s.size ≤ 65536) (hn : ms.length ≤ 65536) {x : Nat} {y : Int} (h1 : failO k f (nameO (tl s k)) = some (x, y)) : Calls Tryz.prog 57 #[.pointer (some ⟨p, 0, none⟩)] w (DcPost w B p s k f ms ((endO f (tl s k)).map some)) := by
  obtain ⟨mv, zs, hz, hr0, hm0⟩ := h
  have hsz : Hid (p < w.heap.size ∧ 9 ≤ p ∧ s.size ≤ 65536 ∧ B ≤ w.heap.size ∧ zs.length ≤ 65536) := Lib.hid ⟨hr0.lt, hp, hs, hB, by rw [← hz, List.length_map] at hn; exact hn⟩
  have HN := Lib.hid (RdPost.is_fail (name_any w p s k f mv hr0 hk hs) h1)
  have HX : Hid (failO k f ((endO f (tl s k)).map some) = some (x, y)) := Lib.hid (by rw [failO_map]; exact failO_seq1 h1)
  clear hr0 hm0 hz hG hs hp hB hn h1
  go_enter Tryz.func57, Tryz.ntmps57
  go_wp2_with (go_at_call 72; refine HN.out.mono ?_; rintro e w2 ⟨rfl, hm⟩; have HM2 := Lib.hid hm; clear hm)
  have hq := hsz.out
  exact ⟨rfl, DcPost.fail HX.out (HM2.out.toQ)⟩
set_option maxHeartbeats 4000000 in
set_option maxRecDepth 100000 in
theorem endTag_f2 (w : World) (B p : Nat) (s : ByteArray) (k f : Nat) (ms : List Mk) (h : St w B p s k f ms) (hG : Glob w) (hp : 9 ≤ p) (hB : B ≤ w.heap.size) (hk : k ≤ s.size) (hs : s.size ≤ 65536) (hn : ms.length ≤ 65536) {nme : List UInt8} {n : Nat} (h1 : nameO (tl s k) = .ok nme n) (h2 : hd (tl s (k + n + wh (tl s (k + n)))) ≠ 62) : Calls Tryz.prog 57 #[.pointer (some ⟨p, 0, none⟩)] w (DcPost w B p s k f ms ((endO f (tl s k)).map some)) := by
  obtain ⟨mv, zs, hz, hr0, hm0⟩ := h
  have hsz : Hid (p < w.heap.size ∧ 9 ≤ p ∧ s.size ≤ 65536 ∧ B ≤ w.heap.size ∧ zs.length ≤ 65536) := Lib.hid ⟨hr0.lt, hp, hs, hB, by rw [← hz, List.length_map] at hn; exact hn⟩
  have hnl := nameO_le h1
  rw [tl_length] at hnl
  have HN := Lib.hid (RdPost.is_ok (name_any w p s k f mv hr0 hk hs) h1)
  have hk1 : k + n ≤ s.size := by omega
  have HBL := Lib.hid (fun W (hW : Rd W p s (k + n) f mv) => blanks_any W p s (k + n) f mv hW hk1 hs)
  have hw1 := wh_le (tl s (k + n))
  rw [tl_length] at hw1
  have hk2 : k + n + wh (tl s (k + n)) ≤ s.size := by omega
  have e1 : endO f (tl s k) = (((mustO 62 (tl s (k + n + wh (tl s (k + n))))).map fun _ => (⟨2, nme, [], false, [], f⟩ : Mk)).on (wh (tl s (k + n)))).on n := by unfold endO; rw [seq_is h1, tl_drop]; unfold spO; rw [seq_is rfl, tl_drop]
  obtain ⟨x, y, hxy⟩ := wrong_some (l := tl s (k + n + wh (tl s (k + n)))) (k + n + wh (tl s (k + n))) f
  have HMU := Lib.hid (fun W (hW : Rd W p s (k + n + wh (tl s (k + n))) f mv) => must_bad W p s (k + n + wh (tl s (k + n))) f mv 62 hW hk2 hs h2 (Lib.hid hxy))
  have HX : Hid (failO k f ((endO f (tl s k)).map some) = some (x, y)) := Lib.hid (by
    rw [failO_map, e1, failO_on, failO_on, failO_map]
    unfold mustO; rw [if_neg h2]; exact hxy)
  clear hr0 hm0 hz hG hs hp hB hn h1 h2 hnl hw1 e1 hxy
  go_enter Tryz.func57, Tryz.ntmps57
  go_wp2_with (first
    | (go_at_call 72; refine HN.out.mono ?_; rintro e w2 ⟨rfl, hr, hm⟩; have HR2 := Lib.hid hr; have HM2 := Lib.hid hm; clear hr hm)
    | (go_at_call 73; refine (HBL.out _ HR2.out).mono ?_; rintro e w3 ⟨rfl, hr, hm⟩; have HR3 := Lib.hid hr; have HM3 := Lib.hid (HM2.out.trans hm); clear hr hm)
    | (go_at_call 74; refine (HMU.out _ HR3.out).mono ?_; rintro e w4 ⟨rfl, hm⟩; have HM4 := Lib.hid (HM3.out.trans hm); clear hm))
  have hq := hsz.out
  exact ⟨rfl, DcPost.fail HX.out (HM4.out.toQ)⟩
set_option maxHeartbeats 4000000 in
set_option maxRecDepth 100000 in
theorem endTag_ok (w : World) (B p : Nat) (s : ByteArray) (k f : Nat) (ms : List Mk) (h : St w B p s k f ms) (hG : Glob w) (hp : 9 ≤ p) (hB : B ≤ w.heap.size) (hk : k ≤ s.size) (hs : s.size ≤ 65536) (hn : ms.length ≤ 65536) {nme : List UInt8} {n : Nat} (h1 : nameO (tl s k) = .ok nme n) (h2 : hd (tl s (k + n + wh (tl s (k + n)))) = 62) : Calls Tryz.prog 57 #[.pointer (some ⟨p, 0, none⟩)] w (DcPost w B p s k f ms ((endO f (tl s k)).map some)) := by
  obtain ⟨mv, zs, hz, hr0, hm0⟩ := h
  have hsz : Hid (p < w.heap.size ∧ 9 ≤ p ∧ s.size ≤ 65536 ∧ B ≤ w.heap.size ∧ zs.length ≤ 65536) := Lib.hid ⟨hr0.lt, hp, hs, hB, by rw [← hz, List.length_map] at hn; exact hn⟩
  have hnl := nameO_le h1
  rw [tl_length] at hnl
  have HN := Lib.hid (RdPost.is_ok (name_any w p s k f mv hr0 hk hs) h1)
  have hk1 : k + n ≤ s.size := by omega
  have HBL := Lib.hid (fun W (hW : Rd W p s (k + n) f mv) => blanks_any W p s (k + n) f mv hW hk1 hs)
  have hw1 := wh_le (tl s (k + n))
  rw [tl_length] at hw1
  have hk2 : k + n + wh (tl s (k + n)) ≤ s.size := by omega
  have e1 : endO f (tl s k) = (((mustO 62 (tl s (k + n + wh (tl s (k + n))))).map fun _ => (⟨2, nme, [], false, [], f⟩ : Mk)).on (wh (tl s (k + n)))).on n := by unfold endO; rw [seq_is h1, tl_drop]; unfold spO; rw [seq_is rfl, tl_drop]
  have HMU := Lib.hid (fun W (hW : Rd W p s (k + n + wh (tl s (k + n))) f mv) => must_ok W p s (k + n + wh (tl s (k + n))) f mv 62 hW hk2 hs h2 (by decide))
  have HX : Hid ((endO f (tl s k)).map some = .ok (some ⟨2, nme, [], false, [], f⟩) (1 + wh (tl s (k + n)) + n)) := Lib.hid (by
    rw [e1]; unfold mustO; rw [if_pos h2]; rfl)
  have HK : Hid (k + (1 + wh (tl s (k + n)) + n) = k + n + wh (tl s (k + n)) + 1) := Lib.hid (by omega)
  have HR := Lib.hid hr0
  have HM := Lib.hid hm0
  have HZ := Lib.hid hz
  clear hr0 hm0 hz hG hs hp hB hn h1 h2 hnl hw1 e1
  go_enter Tryz.func57, Tryz.ntmps57
  go_wp2_with (first
    | (go_at_call 72; refine HN.out.mono ?_; rintro e w2 ⟨rfl, hr, hm⟩; have HR2 := Lib.hid hr; have HM2 := Lib.hid hm; clear hr hm)
    | (go_at_call 73; refine (HBL.out _ HR2.out).mono ?_; rintro e w3 ⟨rfl, hr, hm⟩; have HR3 := Lib.hid hr; have HM3 := Lib.hid (HM2.out.trans hm); clear hr hm)
    | (go_at_call 74; refine (HMU.out _ HR3.out).mono ?_; rintro e w4 ⟨rfl, hr, hm⟩; have HR4 := Lib.hid hr; have HM4 := Lib.hid (HM3.out.trans hm); clear hr hm)
    | (go_at_call 71; refine (tell_any _ p s _ f mv B zs HR4.out (HM.out.mv HM4.out HR.out) (Nat.le_trans hsz.out.2.2.2.1 HM4.out.size) hsz.out.2.2.2.2 ⟨2, nme, [], false, [], f⟩ (.slice none 0 0) 0 (World.ownsRow_nil _ _ _ _) (none_apart rfl) rfl).mono ?_; rintro e w5 ⟨rfl, mv', hr, hm, hb⟩; have HR5 := Lib.hid hr; have HM5 := Lib.hid hm; have HB5 := Lib.hid hb; clear hr hm hb))
  go_end0
  have hq := hsz.out
  rw [HX.out]
  exact ⟨rfl, ⟨mv', _, by rw [List.map_append, HZ.out]; rfl, by rw [HK.out]; exact HR5.out, HM5.out⟩, (HM4.out.toQ).trans HB5.out⟩
theorem endTag_any (w : World) (B p : Nat) (s : ByteArray) (k f : Nat) (ms : List Mk) (h : St w B p s k f ms) (hG : Glob w) (hp : 9 ≤ p) (hB : B ≤ w.heap.size) (hk : k ≤ s.size) (hs : s.size ≤ 65536) (hn : ms.length ≤ 65536) : Calls Tryz.prog 57 #[.pointer (some ⟨p, 0, none⟩)] w (DcPost w B p s k f ms ((endO f (tl s k)).map some)) := by
  cases h1 : nameO (tl s k) with
  | ok nme n =>
    by_cases h2 : hd (tl s (k + n + wh (tl s (k + n)))) = 62
    · exact endTag_ok w B p s k f ms h hG hp hB hk hs hn h1 h2
    · exact endTag_f2 w B p s k f ms h hG hp hB hk hs hn h1 h2
  | bad d y => exact endTag_f1 w B p s k f ms h hG hp hB hk hs hn (by rw [h1]; rfl)
  | un => exact endTag_f1 w B p s k f ms h hG hp hB hk hs hn (by rw [h1]; rfl)
end Go.Proofs.YtbokcihlbpeagaaGreatDoor
