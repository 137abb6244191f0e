/-
  What is proved: contract of markup's text. Conditions: those in each statement.
-/
import Derived.Test.YtbokcihlbpeagaaGreatDoorRp
namespace Go.Proofs.YtbokcihlbpeagaaGreatDoor
open Go.RowKit

theorem failT {l : List UInt8} {n : Nat} {zs : List (List UInt8)} (h : Run stopT (fun _ => pieceO) 0 l n zs) (hs : stopT (l.drop n) = false) {k f x : Nat} {y : Int} (hx : failO (k + n) f (pieceO (l.drop n)) = some (x, y)) :
    failO k f (textO l) = some (x, y) := by
  unfold textO
  cases hq : pieceO (l.drop n) with
  | ok a m => rw [hq] at hx; cases hx
  | bad d c =>
    rw [hq] at hx
    rw [Run.bad h hs hq, ← hx]
    simp only [Out.map, failO]
    rw [show k + (d + n) = k + n + d by omega]
  | un =>
    rw [hq] at hx
    rw [Run.un h hs hq]
    exact hx
set_option maxHeartbeats 4000000 in
set_option maxRecDepth 100000 in
theorem text_any (w : World) (B p : Nat) (s : ByteArray) (k f : Nat) (ms : List Mk) (h : St w B p s k f ms) (hG : Glob w) (hp : 9 ≤ p) (hB : B ≤ w.heap.size) (hk : k ≤ s.size) (hs : s.size ≤ 65536) (hn : ms.length ≤ 65536) : Calls Tryz.prog 59 #[.pointer (some ⟨p, 0, none⟩)] w (DcPost w B p s k f ms ((textO (tl s k)).map fun t => some ⟨3, [], [], false, t, f⟩)) := by
  obtain ⟨mv, zs, hz, hr0, hm0⟩ := h
  have hsz : Hid (p < w.heap.size ∧ 9 ≤ p ∧ s.size ≤ 65536 ∧ B ≤ w.heap.size ∧ zs.length ≤ 65536) := Lib.hid ⟨hr0.lt, hp, hs, hB, by rw [← hz, List.length_map] at hn; exact hn⟩
  have hlt0 := hr0.lt
  have HR := Lib.hid hr0
  have HM := Lib.hid hm0
  have HZ := Lib.hid hz
  have HG := Lib.hid hG
  have HW0 : Rd (w.alloc (.cells #[.pointer none, .slice none 0 0] 79)) p s k f mv := hr0.below (B := w.heap.size) ((Below.refl _ _).alloc (Nat.le_refl _) _) hr0.lt
  have HWh := Lib.hid HW0
  have HBn := Lib.hid (Bd.new w)
  clear hr0 hm0 hz hG hs hp hB hn HW0
  go_enter Tryz.func59, Tryz.ntmps59
  go_wp2
  go_loopg [3, 4, 5, 6, 7, 8, 9, 10, 11, 12, 13, 14, 15, 16, 17, 18, 19, 20] s.size (fun kx _ _ _ _ _ _ _ _ _ _ _ _ _ _ _ _ _ _ wr => ∃ (n : Nat) (ys : List (List UInt8)), k + n ≤ s.size ∧ s.size - (k + n) ≤ kx ∧ Hid (Run stopT (fun _ => pieceO) 0 (tl s k) n ys ∧ ys.flatten.length ≤ 4 * n) ∧ Aside (Rd wr p s (k + n) f mv) ∧ Aside (Mv p w wr) ∧ Aside (Bd wr w.heap.size ys.flatten))
  case atStart => exact ⟨0, [], hk, by omega, Lib.hid ⟨Run.start _ _, by simp⟩, HWh.out, (Mv.refl p w).below (B := w.heap.size) ((Below.refl _ _).alloc (Nat.le_refl _) _) (Nat.le_refl _), HBn.out⟩
  case round =>
    clear HWh HBn
    obtain ⟨n, ys, hnk, hkx, HZn, HRr, HMr, HBr⟩ := hrel
    have HRh := Lib.hid (show Rd wr p s (k + n) f mv from HRr)
    have HMh := Lib.hid (show Mv p w wr from HMr)
    have HBh := Lib.hid (show Bd wr w.heap.size ys.flatten from HBr)
    clear HRr HMr HBr
    have c0 := HRh.out.c0
    have c1 := HRh.out.c1
    have HTL : Hid ((tl s k).drop n = tl s (k + n)) := Lib.hid (by rw [tl_drop])
    have HQ := Lib.hid (fun m => hereQ (wr.drewN m) p s (k + n) f mv (HRh.out.drewN m) hnk)
    by_cases he : k + n = s.size
    · have HT : Hid ((textO (tl s k)).map (fun t => some (⟨3, [], [], false, t, f⟩ : Mk)) = .ok (some ⟨3, [], [], false, ys.flatten, f⟩) n) := Lib.hid (by
        unfold textO
        rw [Run.done HZn.out.1 (by rw [HTL.out, (tl_nil hnk).2 he]; rfl)]; rfl)
      have d1 : decide (((k + n : Nat) : Int) < (s.size : Int)) = false := decide_eq_false (by omega)
      have d2 : decide ((k : Int) + (n : Int) < (s.size : Int)) = false := decide_eq_false (by omega)
      have d3 : decide (k + n < s.size) = false := decide_eq_false (by omega)
      clear he
      generalize ys.flatten = Y at *
      go_wp2_with fail
      go_quiet ((go_at_call 75; exact Calls.quiet_of (HQ.out _)))
      go_wp2_with (first
        | (go_at_call 52; ((refine (stringS _ _ _ (HBh.out.drewN nq)).mono ?_); rintro e w6 ⟨rfl, hbl⟩; have HR6 := Lib.hid ((HRh.out.drewN nq).below hbl hsz.out.1); have HM6 := Lib.hid ((HMh.out.drewN nq).below hbl (Nat.le_refl _)); clear hbl))
        | (go_at_call 71; refine (tell_any _ p s _ f mv B zs HR6.out (HM.out.mv HM6.out HR.out) (Nat.le_trans hsz.out.2.2.2.1 HM6.out.size) hsz.out.2.2.2.2 ⟨3, [], [], false, Y, f⟩ (.slice none 0 0) 0 (World.ownsRow_nil _ _ _ _) (none_apart rfl) rfl).mono ?_; rintro e w5 ⟨rfl, mv9, hr, hm, hb⟩; have HR9 := Lib.hid hr; have HM9 := Lib.hid hm; have HB9 := Lib.hid hb; clear hr hm hb))
      go_end0
      have hq := hsz.out
      rw [HT.out]
      exact ⟨rfl, ⟨mv9, _, by rw [List.map_append, HZ.out]; rfl, HR9.out, HM9.out⟩, (HM6.out.toQ).trans HB9.out⟩
    have hlt : k + n < s.size := by omega
    have hltz : ((k + n : Nat) : Int) < (s.size : Int) := by omega
    have hltz2 : (k : Int) + (n : Int) < (s.size : Int) := by omega
    by_cases h6 : hd (tl s (k + n)) = 60
    · have HT : Hid ((textO (tl s k)).map (fun t => some (⟨3, [], [], false, t, f⟩ : Mk)) = .ok (some ⟨3, [], [], false, ys.flatten, f⟩) n) := Lib.hid (by
        unfold textO
        rw [Run.done HZn.out.1 (by rw [HTL.out]; simp [stopT, h6])]; rfl)
      rw [h6] at HQ
      clear h6 he
      generalize ys.flatten = Y at *
      go_wp2_with fail
      go_quiet ((go_at_call 75; exact Calls.quiet_of (HQ.out _)))
      go_wp2_with (first
        | (go_at_call 52; ((refine (stringS _ _ _ (HBh.out.drewN nq)).mono ?_); rintro e w6 ⟨rfl, hbl⟩; have HR6 := Lib.hid ((HRh.out.drewN nq).below hbl hsz.out.1); have HM6 := Lib.hid ((HMh.out.drewN nq).below hbl (Nat.le_refl _)); clear hbl))
        | (go_at_call 71; refine (tell_any _ p s _ f mv B zs HR6.out (HM.out.mv HM6.out HR.out) (Nat.le_trans hsz.out.2.2.2.1 HM6.out.size) hsz.out.2.2.2.2 ⟨3, [], [], false, Y, f⟩ (.slice none 0 0) 0 (World.ownsRow_nil _ _ _ _) (none_apart rfl) rfl).mono ?_; rintro e w5 ⟨rfl, mv9, hr, hm, hb⟩; have HR9 := Lib.hid hr; have HM9 := Lib.hid hm; have HB9 := Lib.hid hb; clear hr hm hb))
      go_end0
      have hq := hsz.out
      rw [HT.out]
      exact ⟨rfl, ⟨mv9, _, by rw [List.map_append, HZ.out]; rfl, HR9.out, HM9.out⟩, (HM6.out.toQ).trans HB9.out⟩
    have hne : tl s (k + n) ≠ [] := fun h0 => he ((tl_nil hnk).1 h0)
    have hs0 : stopT ((tl s k).drop n) = false := by rw [HTL.out]; simp [stopT, hne, h6]
    have n60 : ((hd (tl s (k + n)) : Int) == 60) = false := beq_eq_false_iff_ne.2 (by omega)
    have m60 : ((hd (tl s (k + n)) : Int) != 60) = true := bne_iff_ne.2 (by omega)
    have HPg := Lib.hid (fun W (hW : Rd W p s (k + n) f mv) (hgW : Glob W) => piece_any W p s (k + n) f mv hW hgW hsz.out.2.1 hlt hsz.out.2.2.1)
    have hle : ∀ a j, pieceO (tl s (k + n)) = .ok a j → 1 ≤ j ∧ j ≤ s.size - (k + n) ∧ a.length ≤ 4 := fun a j hj => by
      have h1 := pieceO_le hne hj
      rw [tl_length] at h1
      exact ⟨h1.1, h1.2.1, pieceO_len hj⟩
    clear h6 he hne
    generalize hcc : hd (tl s (k + n)) = c at *
    clear hcc
    cases hpo : pieceO (tl s (k + n)) with
    | ok a j =>
      have HP := Lib.hid (fun W (hW : Rd W p s (k + n) f mv) (hgW : Glob W) => RdPost.is_ok (HPg.out W hW hgW) hpo)
      obtain ⟨hj1, hj2, hal⟩ := hle a j hpo
      have HLen : Hid (a.length ≤ 4 ∧ k + n < s.size ∧ s.size ≤ 65536) := Lib.hid ⟨hal, hlt, hsz.out.2.2.1⟩
      have HN : Hid (Run stopT (fun _ => pieceO) 0 (tl s k) (n + j) (ys ++ [a]) ∧ (ys ++ [a]).flatten.length ≤ 4 * (n + j)) := Lib.hid ⟨HZn.out.1.on goodT hs0 (by rw [HTL.out]; exact hpo), by have := HZn.out.2; simp at this ⊢; omega⟩
      clear hs0 hpo hle HPg hal
      go_wp2_with fail
      go_quiet ((go_at_call 75; exact Calls.quiet_of (HQ.out _)))
      go_wp2_with (first
        | (go_at_call 78; ((refine (HP.out _ (HRh.out.drewN nq) (HG.out.mv (HMh.out.drewN nq) hsz.out.2.1)).mono ?_); rintro e w4 ⟨rfl, hr, hm⟩; have HR4 := Lib.hid hr; have HM4 := Lib.hid (Mv.trans (HMh.out.drewN nq) hm); have HB4 := Lib.hid (Bd.mv (HBh.out.drewN nq) hm hsz.out.1); clear hr hm))
        | (go_at_call 50; ((refine (writeS _ _ _ a HB4.out (by have := HLen.out; have := HZn.out.2; omega)).mono ?_); rintro e w6 ⟨rfl, hb, hbl⟩; have HB5 := Lib.hid hb; have HR5 := Lib.hid (HR4.out.below hbl hsz.out.1); have HM5 := Lib.hid (HM4.out.below hbl (Nat.le_refl _)); clear hb hbl)))
      go_roundg (s.size - (k + (n + j)))
      case measure => omega
      case rel => exact ⟨n + j, ys ++ [a], by omega, Nat.le_refl _, HN, by rw [← Nat.add_assoc]; exact HR5.out, HM5.out, by (show Bd _ _ _); simpa using HB5.out⟩
    | bad d y =>
      have HP := Lib.hid (fun W (hW : Rd W p s (k + n) f mv) (hgW : Glob W) => RdPost.is_fail (x := k + n + d) (c := y) (HPg.out W hW hgW) (by rw [hpo]; rfl))
      have HXY := Lib.hid (failT HZn.out.1 hs0 (k := k) (f := f) (x := k + n + d) (y := y) (by rw [HTL.out, hpo]; rfl))
      clear hs0 hpo hle HPg
      go_wp2_with fail
      go_quiet ((go_at_call 75; exact Calls.quiet_of (HQ.out _)))
      go_wp2_with (go_at_call 78; ((refine (HP.out _ (HRh.out.drewN nq) (HG.out.mv (HMh.out.drewN nq) hsz.out.2.1)).mono ?_); rintro e w4 ⟨rfl, hm⟩; have HM4 := Lib.hid (Mv.trans (HMh.out.drewN nq) hm); clear hm))
      have hq := hsz.out
      exact ⟨rfl, DcPost.fail (by rw [failO_map]; exact HXY.out) (HM4.out.toQ)⟩
    | un =>
      have HP := Lib.hid (fun W (hW : Rd W p s (k + n) f mv) (hgW : Glob W) => RdPost.is_fail (x := f) (c := 84) (HPg.out W hW hgW) (by rw [hpo]; rfl))
      have HXY := Lib.hid (failT HZn.out.1 hs0 (k := k) (f := f) (x := f) (y := 84) (by rw [HTL.out, hpo]; rfl))
      clear hs0 hpo hle HPg
      go_wp2_with fail
      go_quiet ((go_at_call 75; exact Calls.quiet_of (HQ.out _)))
      go_wp2_with (go_at_call 78; ((refine (HP.out _ (HRh.out.drewN nq) (HG.out.mv (HMh.out.drewN nq) hsz.out.2.1)).mono ?_); rintro e w4 ⟨rfl, hm⟩; have HM4 := Lib.hid (Mv.trans (HMh.out.drewN nq) hm); clear hm))
      have hq := hsz.out
      exact ⟨rfl, DcPost.fail (by rw [failO_map]; exact HXY.out) (HM4.out.toQ)⟩
end Go.Proofs.YtbokcihlbpeagaaGreatDoor
