/-
  What is proved: contract of markup's cdata. Conditions: those in each statement.
-/
import Derived.Test.YtbokcihlbpeagaaGreatDoorRo
namespace Go.Proofs.YtbokcihlbpeagaaGreatDoor
open Go.RowKit

/-- strings.ReplaceAll of a short text -/
theorem replT (t : List UInt8) (old : ByteArray) (hs : t.length ≤ 65536) (ho : 1 ≤ old.size) (w : World) (hG : Glob w) :
    Calls Tryz.prog 70 #[strV t, .string old, .string ⟨#[10]⟩] w fun e w' => e = .returned (strV (Lib.replaceAll t old.data.toList [10])) ∧ Below w.heap.size w w' := by
  obtain ⟨m, hm⟩ := hG.mx
  have hz : (⟨t.toArray⟩ : ByteArray).size = t.length := by rw [← size_toList]
  have hc := Lib.count_le t old.data.toList
  refine (Tryz.strings_ReplaceAll ⟨t.toArray⟩ old ⟨#[10]⟩ m w (by rw [hz]; omega) hm ho (by
    rw [hz]
    have : Lib.countB ⟨t.toArray⟩ old ≤ t.length + 1 := by simpa [Lib.countB] using hc
    show t.length + Lib.countB ⟨t.toArray⟩ old * 1 ≤ _
    omega)).mono ?_
  rintro e w' ⟨rfl, hb⟩
  exact ⟨rfl, hb⟩
set_option maxHeartbeats 4000000 in
set_option maxRecDepth 100000 in
theorem cdata_any (w : World) (B p : Nat) (s : ByteArray) (k f : Nat) (ms : List Mk) (h : St w B p s k f ms) (hG : Glob w) (hp : 9 ≤ p) (hB : B ≤ w.heap.size) (hk : k ≤ s.size) (hs : s.size ≤ 65536) (hn : ms.length ≤ 65536) : Calls Tryz.prog 56 #[.pointer (some ⟨p, 0, none⟩)] w (DcPost w B p s k f ms (cdataO f (tl s k))) := by
  obtain ⟨mv, zs, hz, hr0, hm0⟩ := h
  have hsz : Hid (p < w.heap.size ∧ 9 ≤ p ∧ s.size ≤ 65536 ∧ B ≤ w.heap.size ∧ zs.length ≤ 65536) := Lib.hid ⟨hr0.lt, hp, hs, hB, by rw [← hz, List.length_map] at hn; exact hn⟩
  have HU := Lib.hid (upTo_any w p s k f mv ⟨#[93, 93, 62]⟩ (by decide) hr0 hG hk hs)
  rw [show (⟨#[93, 93, 62]⟩ : ByteArray).data.toList = [93, 93, 62] from rfl] at HU
  have HG := Lib.hid hG
  have HUL : Hid (∀ a n, upO [93, 93, 62] (tl s k) = .ok a n → a.length ≤ 65536) := Lib.hid (fun a n hu => by
    unfold upO at hu
    split at hu
    · cases hu; rw [List.length_take, tl_length]; omega
    · cases hu)
  have HO : Hid (cdataO f (tl s k) = (upO [93, 93, 62] (tl s k)).map fun t => if t = [] then none else some ⟨3, [], [], false, flat1 t, f⟩) := Lib.hid rfl
  rw [HO.out]
  have HR := Lib.hid hr0
  have HM := Lib.hid hm0
  have HZ := Lib.hid hz
  clear hr0 hm0 hz hG hs hp hB hn HO
  generalize upO [93, 93, 62] (tl s k) = o at *
  cases o with
  | ok a n =>
    have HL := Lib.hid (HUL.out a n rfl)
    clear HUL
    cases a with
    | nil =>
      go_enter Tryz.func56, Tryz.ntmps56
      go_wp2_with (go_at_call 62; refine (RdPost.is_ok HU.out rfl).mono ?_; rintro e w2 ⟨rfl, hr, hm⟩; have HR2 := Lib.hid hr; have HM2 := Lib.hid hm; clear hr hm)
      refine bodyPost_ret (results_none rfl _ _ _) rfl ?_
      have hq := hsz.out
      exact ⟨rfl, ⟨mv, zs, by rw [HZ.out]; simp, HR2.out, HM.out.mv HM2.out HR.out⟩, HM2.out.toQ⟩
    | cons b t =>
      have HF := Lib.hid (flat_replace (b :: t))
      have HL2 := Lib.hid (replace_len (b :: t))
      have HR1 := Lib.hid (fun W hW => replT (b :: t) ⟨#[13, 10]⟩ HL.out (by decide) W hW)
      rw [show (⟨#[13, 10]⟩ : ByteArray).data.toList = [13, 10] from rfl] at HR1
      have HR2' := Lib.hid (fun W hW => replT (Lib.replaceAll (b :: t) [13, 10] [10]) ⟨#[13]⟩ (Nat.le_trans HL2.out HL.out) (by decide) W hW)
      rw [show (⟨#[13]⟩ : ByteArray).data.toList = [13] from rfl, HF.out] at HR2'
      have HO : Hid ((Out.ok (b :: t) n).map (fun t => if t = [] then none else some (⟨3, [], [], false, flat1 t, f⟩ : Mk)) = .ok (some ⟨3, [], [], false, flat1 (b :: t), f⟩) n) := Lib.hid rfl
      rw [HO.out]
      clear HO HF HL2
      generalize Lib.replaceAll (b :: t) [13, 10] [10] = t1 at *
      generalize flat1 (b :: t) = t2 at *
      go_enter Tryz.func56, Tryz.ntmps56
      go_wp2_with (first
        | (go_at_call 62; refine (RdPost.is_ok HU.out rfl).mono ?_; rintro e w2 ⟨rfl, hr, hm⟩; have HR2 := Lib.hid hr; have HM2 := Lib.hid hm; clear hr hm)
        | (go_at_call 70; ((with_reducible refine (HR1.out _ (HG.out.mv HM2.out hsz.out.2.1)).mono ?_); rintro e w3 ⟨rfl, hb⟩; have HB3 := Lib.hid hb; have HR3 := Lib.hid (HR2.out.below hb HR2.out.lt); have HM3 := Lib.hid (HM2.out.below hb HM2.out.size); clear hb))
        | (go_at_call 70; ((refine (HR2'.out _ (HG.out.mv HM3.out hsz.out.2.1)).mono ?_); rintro e w4 ⟨rfl, hb⟩; have HR4 := Lib.hid (HR3.out.below hb HR3.out.lt); have HM4 := Lib.hid (HM3.out.below hb HM3.out.size); clear hb))
        | (go_at_call 71; refine (tell_any _ p s _ f mv B zs HR4.out (HM.out.mv HM4.out HR.out) (Nat.le_trans hsz.out.2.2.2.1 HM4.out.size) hsz.out.2.2.2.2 ⟨3, [], [], false, t2, f⟩ (.slice none 0 0) 0 (World.ownsRow_nil _ _ _ _) (none_apart rfl) rfl).mono ?_; rintro e w5 ⟨rfl, mv9, hr, hm, hb⟩; have HR9 := Lib.hid hr; have HM9 := Lib.hid hm; have HB9 := Lib.hid hb; clear hr hm hb))
      go_end0
      have hq := hsz.out
      exact ⟨rfl, ⟨mv9, _, by rw [List.map_append, HZ.out]; rfl, HR9.out, HM9.out⟩, (HM4.out.toQ).trans HB9.out⟩
  | bad d c =>
    go_enter Tryz.func56, Tryz.ntmps56
    go_wp2_with (go_at_call 62; refine (RdPost.is_fail HU.out rfl).mono ?_; rintro e w2 ⟨rfl, hm⟩; have HM2 := Lib.hid hm; clear hm)
    have hq := hsz.out
    exact ⟨rfl, rfl, HM2.out.toQ⟩
  | un =>
    go_enter Tryz.func56, Tryz.ntmps56
    go_wp2_with (go_at_call 62; refine (RdPost.is_fail HU.out rfl).mono ?_; rintro e w2 ⟨rfl, hm⟩; have HM2 := Lib.hid hm; clear hm)
    have hq := hsz.out
    exact ⟨rfl, rfl, HM2.out.toQ⟩
end Go.Proofs.YtbokcihlbpeagaaGreatDoor
