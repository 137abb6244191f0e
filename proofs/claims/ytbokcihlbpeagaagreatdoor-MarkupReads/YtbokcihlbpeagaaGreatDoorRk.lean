/-
  What is proved: contract of markup's value. Conditions: those in each statement.
-/
import Derived.Test.YtbokcihlbpeagaaGreatDoorRj
namespace Go.Proofs.YtbokcihlbpeagaaGreatDoor
open Go.RowKit

theorem failV {q : Nat} {l : List UInt8} {n : Nat} {zs : List (List UInt8)} (h : Run (stopV q) (fun _ => stepV) 0 l n zs) (hs : stopV q (l.drop n) = false) {i k f x : Nat} {y : Int} (hi : i = k + 1 + n) (hx : failO i f (stepV (l.drop n)) = some (x, y)) :
    failO k f ((((loop (stopV q) (fun _ => stepV) 0 l).map List.flatten).more 1).on 1) = some (x, y) := by
  subst hi
  cases hq : stepV (l.drop n) with
  | ok a m => rw [hq] at hx; cases hx
  | bad d c =>
    rw [hq] at hx
    rw [Run.bad h hs hq]
    rw [← hx]
    simp only [Out.map, Out.more, Out.on, failO]
    rw [show k + (d + n + 1) = k + 1 + n + d by omega]
  | un =>
    rw [hq] at hx
    rw [Run.un h hs hq]
    exact hx

set_option maxHeartbeats 4000000 in
set_option maxRecDepth 100000 in
theorem value_34 (w : World) (p : Nat) (s : ByteArray) (k f : Nat) (m : Value) (h : Rd w p s k f m) (hG : Glob w) (hp : 9 ≤ p) (hk : k ≤ s.size) (hs : s.size ≤ 65536) (hq : hd (tl s k) = 34) :
    Calls Tryz.prog 90 #[.pointer (some ⟨p, 0, none⟩)] w (RdPost w p s k f m (valueO (tl s k)) strV) := by
  have HH0 := Lib.hid (fun W hW => here_l W p s k f m hW hk hs)
  rw [hq] at HH0
  have HR := Lib.hid h
  have HG := Lib.hid hG
  have HS := Lib.hid hs
  have hk1 : k + 1 ≤ s.size := by have := hd_ne (l := tl s k) (by omega); rw [tl_length] at this; omega
  have HV : Hid (valueO (tl s k) = (((loop (stopV 34) (fun _ => stepV) 0 (tl s (k + 1))).map List.flatten).more 1).on 1) := Lib.hid (by unfold valueO; rw [if_neg (by omega), hq, tl_drop])
  clear h hG hs hq
  go_enter Tryz.func90, Tryz.ntmps90
  go_wp2_with (go_at_call 75; refine (HH0.out _ HR.out).mono ?_; rintro e w1 ⟨rfl, hr, hm⟩; have c1 := hr.c1; have z1 := hr.z 1; have HR1 := Lib.hid hr; have HM1 := Lib.hid hm; clear hr hm)
  have HB0 : Hid (w.heap.size ≤ w1.heap.size ∧ p < w.heap.size) := Lib.hid ⟨HM1.out.size, HR.out.lt⟩
  have HRa := HR1.out.at1 (x := wrap64 ((k : Int) + 1)) (j := k + 1) (by have := HS.out; exact Go.IntWalk.wrap64_in _ (by omega))
  have HMa := HM1.out.set 1 (.int .i64 (wrap64 ((k : Int) + 1)))
  have HBd := Bd.new (w1.setCell ⟨p, 1, none⟩ (.int .i64 (wrap64 ((k : Int) + 1))))
  have HRb := HRa.below (B := w1.heap.size) ((Below.refl w1.heap.size (w1.setCell ⟨p, 1, none⟩ (.int .i64 (wrap64 ((k : Int) + 1))))).alloc (by simp) (.cells #[.pointer none, .slice none 0 0] 79)) (by have := HB0.out; omega)
  have HMb := HMa.below (B := w1.heap.size) ((Below.refl w1.heap.size (w1.setCell ⟨p, 1, none⟩ (.int .i64 (wrap64 ((k : Int) + 1))))).alloc (by simp) (.cells #[.pointer none, .slice none 0 0] 79)) (by have := HB0.out; omega)
  rw [show (w1.setCell ⟨p, 1, none⟩ (.int .i64 (wrap64 ((k : Int) + 1)))).heap.size = w1.heap.size by simp] at HBd
  have HRc := Lib.hid HRb
  have HMc := Lib.hid HMb
  have HBc := Lib.hid HBd
  clear HRa HMa HBd HRb HMb c1 z1 HM1 HR1 HR
  go_loopg [5, 6, 24, 25, 26, 27, 28, 29, 30, 31, 32, 33, 34, 35, 36, 37, 38, 39, 40, 41, 42, 43] s.size (fun kx _ _ _ _ _ _ _ _ _ _ _ _ _ _ _ _ _ _ _ _ _ _ wr => ∃ (n : Nat) (zs : List (List UInt8)), k + 1 + n ≤ s.size ∧ s.size - (k + 1 + n) ≤ kx ∧ Hid (Run (stopV 34) (fun _ => stepV) 0 (tl s (k + 1)) n zs ∧ zs.flatten.length ≤ 4 * n) ∧ Aside (Rd wr p s (k + 1 + n) f m) ∧ Aside (Mv p w wr) ∧ Aside (Bd wr w1.heap.size zs.flatten))
  case atStart => exact ⟨0, [], hk1, by omega, Lib.hid ⟨Run.start _ _, by simp⟩, HRc.out, HMc.out, HBc.out⟩
  case round =>
    clear HRc HMc HBc HH0
    obtain ⟨n, zs, hn, hkx, HZ, HR, HM, HBd⟩ := hrel
    have HRh := Lib.hid (show Rd wr p s (k + 1 + n) f m from HR)
    have HMh := Lib.hid (show Mv p w wr from HM)
    have HBh := Lib.hid (show Bd wr w1.heap.size zs.flatten from HBd)
    clear HR HM HBd
    have HHg := Lib.hid (fun W hW => here_l W p s (k + 1 + n) f m hW hn HS.out)
    have HTL : Hid ((tl s (k + 1)).drop n = tl s (k + 1 + n)) := Lib.hid (by rw [tl_drop])
    by_cases hc : hd (tl s (k + 1 + n)) = 34
    · have hlt : k + 1 + n < s.size := by have := hd_ne (l := tl s (k + 1 + n)) (by omega); rw [tl_length] at this; omega
      have HT : Hid (valueO (tl s k) = .ok zs.flatten (n + 1 + 1)) := Lib.hid (by
        rw [HV.out, Run.done HZ.out.1 (by rw [HTL.out]; simp [stopV, hc])]; rfl)
      rw [hc] at HHg
      clear hc
      go_wp2_with (first
        | (go_at_call 75; ((with_reducible refine (HHg.out _ HRh.out).mono ?_); rintro e w2 ⟨rfl, hr, hm⟩; have HR2 := Lib.hid hr; have HM2 := Lib.hid (HMh.out.trans hm); have HB2 := Lib.hid (HBh.out.mv hm (by have := HB0.out; omega)); have c1 := hr.c1; have z1 := hr.z 1; clear hr hm))
        | (go_at_call 52; ((refine (stringS _ _ _ (HB2.out.mv ((Mv.refl _ _).set 1 _) (by have := HB0.out; omega))).mono ?_); rintro e w6 ⟨rfl, hbl⟩; have HBL := Lib.hid hbl; clear hbl)))
      go_ret
      rw [HT.out]
      exact ⟨rfl, (HR2.out.at1 (j := k + (n + 1 + 1)) (by have := HS.out; rw [Go.IntWalk.wrap64_in _ (by omega)]; push_cast; omega)).below HBL.out (by have := HB0.out; omega), (HM2.out.set 1 _).below HBL.out (by have := HB0.out; omega)⟩
    · have hs0 : stopV 34 ((tl s (k + 1)).drop n) = false := by rw [HTL.out]; simp [stopV, hc]
      have nq1 : ((hd (tl s (k + 1 + n)) : Int) == 34) = false := beq_eq_false_iff_ne.2 (by omega)
      have nq2 : ((hd (tl s (k + 1 + n)) : Int) != 34) = true := bne_iff_ne.2 (by omega)
      by_cases h6 : hd (tl s (k + 1 + n)) = 60
      · have hst : stepV ((tl s (k + 1)).drop n) = wrongO (tl s (k + 1 + n)) := by rw [HTL.out]; unfold stepV; rw [if_pos (.inl h6)]
        obtain ⟨x, y, hxy⟩ : ∃ x y, failO (k + 1 + n) f (wrongO (α := Unit) (tl s (k + 1 + n))) = some (x, y) := by unfold wrongO; split <;> exact ⟨_, _, rfl⟩
        have HW := Lib.hid (fun W (hW : Rd W p s (k + 1 + n) f m) => wrong_l W p s (k + 1 + n) f m hW hn HS.out (Lib.hid hxy))
        have HXY := Lib.hid (failV HZ.out.1 hs0 (i := k + 1 + n) (k := k) (f := f) rfl (by rw [hst, failO_wrong (β := Unit)]; exact hxy))
        rw [h6] at HHg
        clear hxy hst hc h6 hs0 nq1 nq2
        go_wp2_with (first
          | (go_at_call 75; ((with_reducible refine (HHg.out _ HRh.out).mono ?_); rintro e w2 ⟨rfl, hr, hm⟩; have HR2 := Lib.hid hr; have HM2 := Lib.hid (HMh.out.trans hm); have HB2 := Lib.hid (HBh.out.mv hm (by have := HB0.out; omega)); have c1 := hr.c1; have z1 := hr.z 1; clear hr hm))
          | (go_at_call 75; ((with_reducible refine (HHg.out _ HR2.out).mono ?_); rintro e w3 ⟨rfl, hr, hm⟩; have HR3 := Lib.hid hr; have HM3 := Lib.hid (Mv.trans HM2.out hm); have HB3 := Lib.hid (Bd.mv HB2.out hm (by have := HB0.out; omega)); have c2 := hr.c1; have z2 := hr.z 1; clear hr hm))
          | (go_at_call 76; ((with_reducible refine (HW.out _ HR3.out).mono ?_); rintro e w4 ⟨rfl, hm⟩; have HM4 := Lib.hid (Mv.trans HM3.out hm); clear hm)))
        exact ⟨rfl, by rw [HV.out]; exact RdPost.fail HXY.out HM4.out⟩
      by_cases h7 : hd (tl s (k + 1 + n)) = 0
      · have hst : stepV ((tl s (k + 1)).drop n) = wrongO (tl s (k + 1 + n)) := by rw [HTL.out]; unfold stepV; rw [if_pos (.inr h7)]
        obtain ⟨x, y, hxy⟩ : ∃ x y, failO (k + 1 + n) f (wrongO (α := Unit) (tl s (k + 1 + n))) = some (x, y) := by unfold wrongO; split <;> exact ⟨_, _, rfl⟩
        have HW := Lib.hid (fun W (hW : Rd W p s (k + 1 + n) f m) => wrong_l W p s (k + 1 + n) f m hW hn HS.out (Lib.hid hxy))
        have HXY := Lib.hid (failV HZ.out.1 hs0 (i := k + 1 + n) (k := k) (f := f) rfl (by rw [hst, failO_wrong (β := Unit)]; exact hxy))
        rw [h7] at HHg
        clear hxy hst hc h7 hs0 nq1 nq2 h6
        go_wp2_with (first
          | (go_at_call 75; ((with_reducible refine (HHg.out _ HRh.out).mono ?_); rintro e w2 ⟨rfl, hr, hm⟩; have HR2 := Lib.hid hr; have HM2 := Lib.hid (HMh.out.trans hm); have HB2 := Lib.hid (HBh.out.mv hm (by have := HB0.out; omega)); have c1 := hr.c1; have z1 := hr.z 1; clear hr hm))
          | (go_at_call 75; ((with_reducible refine (HHg.out _ HR2.out).mono ?_); rintro e w3 ⟨rfl, hr, hm⟩; have HR3 := Lib.hid hr; have HM3 := Lib.hid (Mv.trans HM2.out hm); have HB3 := Lib.hid (Bd.mv HB2.out hm (by have := HB0.out; omega)); have c2 := hr.c1; have z2 := hr.z 1; clear hr hm))
          | (go_at_call 76; ((with_reducible refine (HW.out _ HR3.out).mono ?_); rintro e w4 ⟨rfl, hm⟩; have HM4 := Lib.hid (Mv.trans HM3.out hm); clear hm)))
        exact ⟨rfl, by rw [HV.out]; exact RdPost.fail HXY.out HM4.out⟩
      have hlt : k + 1 + n < s.size := by have := hd_ne h7; rw [tl_length] at this; omega
      have n60 : ((hd (tl s (k + 1 + n)) : Int) == 60) = false := beq_eq_false_iff_ne.2 (by omega)
      have n0 : ((hd (tl s (k + 1 + n)) : Int) == 0) = false := beq_eq_false_iff_ne.2 (by omega)
      have hst : stepV (tl s (k + 1 + n)) = if isW (hd (tl s (k + 1 + n))) = true then (pieceO (tl s (k + 1 + n))).map (fun _ => [32]) else pieceO (tl s (k + 1 + n)) := by
        conv => lhs; unfold stepV
        rw [if_neg (by omega)]
      have HPg := Lib.hid (fun W (hW : Rd W p s (k + 1 + n) f m) (hgW : Glob W) => piece_any W p s (k + 1 + n) f m hW hgW hp hlt HS.out)
      have hle : ∀ a j, pieceO (tl s (k + 1 + n)) = .ok a j → 1 ≤ j ∧ j ≤ s.size - (k + 1 + n) ∧ a.length ≤ 4 := fun a j hj => by
        have h1 := pieceO_le (by rintro h0; rw [h0] at h7; exact h7 rfl) hj
        rw [tl_length] at h1
        exact ⟨h1.1, h1.2.1, pieceO_len hj⟩
      clear hc h6 h7
      cases hpo : pieceO (tl s (k + 1 + n)) with
      | ok a j =>
        have HP := Lib.hid (fun W (hW : Rd W p s (k + 1 + n) f m) (hgW : Glob W) => RdPost.is_ok (HPg.out W hW hgW) hpo)
        obtain ⟨hj1, hj2, hal⟩ := hle a j hpo
        have HLen : Hid (a.length ≤ 4 ∧ k + 1 + n < s.size ∧ s.size ≤ 65536) := Lib.hid ⟨hal, hlt, HS.out⟩
        cases hw : isW (hd (tl s (k + 1 + n))) with
        | true =>
          rw [hw, if_pos rfl, hpo] at hst
          have HN : Hid (Run (stopV 34) (fun _ => stepV) 0 (tl s (k + 1)) (n + j) (zs ++ [[32]]) ∧ (zs ++ [[32]]).flatten.length ≤ 4 * (n + j)) := Lib.hid ⟨HZ.out.1.on (goodV 34) hs0 (by rw [HTL.out]; exact hst), by have := HZ.out.2; simp at this ⊢; omega⟩
          have HWH := Lib.hid (fun W => white_is (hd (tl s (k + 1 + n))) true hw.symm W)
          clear hst hs0 hw hpo hle HPg hal
          generalize hd (tl s (k + 1 + n)) = c at *
          go_wp2_with (first
            | (go_at_call 75; ((with_reducible refine (HHg.out _ HRh.out).mono ?_); rintro e w2 ⟨rfl, hr, hm⟩; have HR2 := Lib.hid hr; have HM2 := Lib.hid (HMh.out.trans hm); have HB2 := Lib.hid (HBh.out.mv hm (by have := HB0.out; omega)); have c1 := hr.c1; have z1 := hr.z 1; clear hr hm))
            | (go_at_call 75; ((with_reducible refine (HHg.out _ HR2.out).mono ?_); rintro e w3 ⟨rfl, hr, hm⟩; have HR3 := Lib.hid hr; have HM3 := Lib.hid (Mv.trans HM2.out hm); have HB3 := Lib.hid (Bd.mv HB2.out hm (by have := HB0.out; omega)); have c2 := hr.c1; have z2 := hr.z 1; clear hr hm))
            | (go_at_call 78; ((with_reducible refine (HP.out _ HR3.out (HG.out.mv HM3.out hp)).mono ?_); rintro e w4 ⟨rfl, hr, hm⟩; have HR4 := Lib.hid hr; have HM4 := Lib.hid (Mv.trans HM3.out hm); have HB4 := Lib.hid (Bd.mv HB3.out hm (by have := HB0.out; omega)); clear hr hm))
            | (go_at_call 61; ((with_reducible refine (HWH.out _).mono ?_); rintro e w5 ⟨rfl, rfl⟩))
            | (go_at_call 50; ((refine (writeS _ _ _ ([32]) HB4.out (by have := HLen.out; have := HZ.out.2; (try simp only [List.length_cons, List.length_nil]); omega)).mono ?_); rintro e w6 ⟨rfl, hb, hbl⟩; have HB5 := Lib.hid hb; have HR5 := Lib.hid (HR4.out.below hbl (by have := HB0.out; omega)); have HM5 := Lib.hid (HM4.out.below hbl (by have := HB0.out; omega)); clear hb hbl)))
          go_roundg (s.size - (k + 1 + (n + j)))
          case measure => omega
          case rel => exact ⟨n + j, zs ++ [[32]], by omega, Nat.le_refl _, HN, by rw [← Nat.add_assoc]; exact HR5.out, HM5.out, by (show Bd _ _ _); simpa using HB5.out⟩
        | false =>
          rw [hw, if_neg (by simp), hpo] at hst
          have HN : Hid (Run (stopV 34) (fun _ => stepV) 0 (tl s (k + 1)) (n + j) (zs ++ [a]) ∧ (zs ++ [a]).flatten.length ≤ 4 * (n + j)) := Lib.hid ⟨HZ.out.1.on (goodV 34) hs0 (by rw [HTL.out]; exact hst), by have := HZ.out.2; simp at this ⊢; omega⟩
          have HWH := Lib.hid (fun W => white_is (hd (tl s (k + 1 + n))) false hw.symm W)
          clear hst hs0 hw hpo hle HPg hal
          generalize hd (tl s (k + 1 + n)) = c at *
          go_wp2_with (first
            | (go_at_call 75; ((with_reducible refine (HHg.out _ HRh.out).mono ?_); rintro e w2 ⟨rfl, hr, hm⟩; have HR2 := Lib.hid hr; have HM2 := Lib.hid (HMh.out.trans hm); have HB2 := Lib.hid (HBh.out.mv hm (by have := HB0.out; omega)); have c1 := hr.c1; have z1 := hr.z 1; clear hr hm))
            | (go_at_call 75; ((with_reducible refine (HHg.out _ HR2.out).mono ?_); rintro e w3 ⟨rfl, hr, hm⟩; have HR3 := Lib.hid hr; have HM3 := Lib.hid (Mv.trans HM2.out hm); have HB3 := Lib.hid (Bd.mv HB2.out hm (by have := HB0.out; omega)); have c2 := hr.c1; have z2 := hr.z 1; clear hr hm))
            | (go_at_call 78; ((with_reducible refine (HP.out _ HR3.out (HG.out.mv HM3.out hp)).mono ?_); rintro e w4 ⟨rfl, hr, hm⟩; have HR4 := Lib.hid hr; have HM4 := Lib.hid (Mv.trans HM3.out hm); have HB4 := Lib.hid (Bd.mv HB3.out hm (by have := HB0.out; omega)); clear hr hm))
            | (go_at_call 61; ((with_reducible refine (HWH.out _).mono ?_); rintro e w5 ⟨rfl, rfl⟩))
            | (go_at_call 50; ((refine (writeS _ _ _ (a) HB4.out (by have := HLen.out; have := HZ.out.2; (try simp only [List.length_cons, List.length_nil]); omega)).mono ?_); rintro e w6 ⟨rfl, hb, hbl⟩; have HB5 := Lib.hid hb; have HR5 := Lib.hid (HR4.out.below hbl (by have := HB0.out; omega)); have HM5 := Lib.hid (HM4.out.below hbl (by have := HB0.out; omega)); clear hb hbl)))
          go_roundg (s.size - (k + 1 + (n + j)))
          case measure => omega
          case rel => exact ⟨n + j, zs ++ [a], by omega, Nat.le_refl _, HN, by rw [← Nat.add_assoc]; exact HR5.out, HM5.out, by (show Bd _ _ _); simpa using HB5.out⟩
      | bad d y =>
        have HP := Lib.hid (fun W (hW : Rd W p s (k + 1 + n) f m) (hgW : Glob W) => RdPost.is_fail (x := k + 1 + n + d) (c := y) (HPg.out W hW hgW) (by rw [hpo]; rfl))
        have HXY := Lib.hid (failV HZ.out.1 hs0 (i := k + 1 + n) (k := k) (f := f) (x := k + 1 + n + d) (y := y) rfl (by rw [HTL.out, hst, hpo]; split <;> rfl))
        clear hst hs0 hpo hle HPg
        generalize hd (tl s (k + 1 + n)) = c at *
        go_wp2_with (first
          | (go_at_call 75; ((with_reducible refine (HHg.out _ HRh.out).mono ?_); rintro e w2 ⟨rfl, hr, hm⟩; have HR2 := Lib.hid hr; have HM2 := Lib.hid (HMh.out.trans hm); have HB2 := Lib.hid (HBh.out.mv hm (by have := HB0.out; omega)); have c1 := hr.c1; have z1 := hr.z 1; clear hr hm))
          | (go_at_call 75; ((with_reducible refine (HHg.out _ HR2.out).mono ?_); rintro e w3 ⟨rfl, hr, hm⟩; have HR3 := Lib.hid hr; have HM3 := Lib.hid (Mv.trans HM2.out hm); have HB3 := Lib.hid (Bd.mv HB2.out hm (by have := HB0.out; omega)); have c2 := hr.c1; have z2 := hr.z 1; clear hr hm))
          | (go_at_call 78; ((with_reducible refine (HP.out _ HR3.out (HG.out.mv HM3.out hp)).mono ?_); rintro e w4 ⟨rfl, hm⟩; have HM4 := Lib.hid (Mv.trans HM3.out hm); clear hm)))
        exact ⟨rfl, by rw [HV.out]; exact RdPost.fail HXY.out HM4.out⟩
      | un =>
        have HP := Lib.hid (fun W (hW : Rd W p s (k + 1 + n) f m) (hgW : Glob W) => RdPost.is_fail (x := f) (c := 84) (HPg.out W hW hgW) (by rw [hpo]; rfl))
        have HXY := Lib.hid (failV HZ.out.1 hs0 (i := k + 1 + n) (k := k) (f := f) (x := f) (y := 84) rfl (by rw [HTL.out, hst, hpo]; split <;> rfl))
        clear hst hs0 hpo hle HPg
        generalize hd (tl s (k + 1 + n)) = c at *
        go_wp2_with (first
          | (go_at_call 75; ((with_reducible refine (HHg.out _ HRh.out).mono ?_); rintro e w2 ⟨rfl, hr, hm⟩; have HR2 := Lib.hid hr; have HM2 := Lib.hid (HMh.out.trans hm); have HB2 := Lib.hid (HBh.out.mv hm (by have := HB0.out; omega)); have c1 := hr.c1; have z1 := hr.z 1; clear hr hm))
          | (go_at_call 75; ((with_reducible refine (HHg.out _ HR2.out).mono ?_); rintro e w3 ⟨rfl, hr, hm⟩; have HR3 := Lib.hid hr; have HM3 := Lib.hid (Mv.trans HM2.out hm); have HB3 := Lib.hid (Bd.mv HB2.out hm (by have := HB0.out; omega)); have c2 := hr.c1; have z2 := hr.z 1; clear hr hm))
          | (go_at_call 78; ((with_reducible refine (HP.out _ HR3.out (HG.out.mv HM3.out hp)).mono ?_); rintro e w4 ⟨rfl, hm⟩; have HM4 := Lib.hid (Mv.trans HM3.out hm); clear hm)))
        exact ⟨rfl, by rw [HV.out]; exact RdPost.fail HXY.out HM4.out⟩

set_option maxHeartbeats 4000000 in
set_option maxRecDepth 100000 in
theorem value_39 (w : World) (p : Nat) (s : ByteArray) (k f : Nat) (m : Value) (h : Rd w p s k f m) (hG : Glob w) (hp : 9 ≤ p) (hk : k ≤ s.size) (hs : s.size ≤ 65536) (hq : hd (tl s k) = 39) :
    Calls Tryz.prog 90 #[.pointer (some ⟨p, 0, none⟩)] w (RdPost w p s k f m (valueO (tl s k)) strV) := by
  have HH0 := Lib.hid (fun W hW => here_l W p s k f m hW hk hs)
  rw [hq] at HH0
  have HR := Lib.hid h
  have HG := Lib.hid hG
  have HS := Lib.hid hs
  have hk1 : k + 1 ≤ s.size := by have := hd_ne (l := tl s k) (by omega); rw [tl_length] at this; omega
  have HV : Hid (valueO (tl s k) = (((loop (stopV 39) (fun _ => stepV) 0 (tl s (k + 1))).map List.flatten).more 1).on 1) := Lib.hid (by unfold valueO; rw [if_neg (by omega), hq, tl_drop])
  clear h hG hs hq
  go_enter Tryz.func90, Tryz.ntmps90
  go_wp2_with (go_at_call 75; refine (HH0.out _ HR.out).mono ?_; rintro e w1 ⟨rfl, hr, hm⟩; have c1 := hr.c1; have z1 := hr.z 1; have HR1 := Lib.hid hr; have HM1 := Lib.hid hm; clear hr hm)
  have HB0 : Hid (w.heap.size ≤ w1.heap.size ∧ p < w.heap.size) := Lib.hid ⟨HM1.out.size, HR.out.lt⟩
  have HRa := HR1.out.at1 (x := wrap64 ((k : Int) + 1)) (j := k + 1) (by have := HS.out; exact Go.IntWalk.wrap64_in _ (by omega))
  have HMa := HM1.out.set 1 (.int .i64 (wrap64 ((k : Int) + 1)))
  have HBd := Bd.new (w1.setCell ⟨p, 1, none⟩ (.int .i64 (wrap64 ((k : Int) + 1))))
  have HRb := HRa.below (B := w1.heap.size) ((Below.refl w1.heap.size (w1.setCell ⟨p, 1, none⟩ (.int .i64 (wrap64 ((k : Int) + 1))))).alloc (by simp) (.cells #[.pointer none, .slice none 0 0] 79)) (by have := HB0.out; omega)
  have HMb := HMa.below (B := w1.heap.size) ((Below.refl w1.heap.size (w1.setCell ⟨p, 1, none⟩ (.int .i64 (wrap64 ((k : Int) + 1))))).alloc (by simp) (.cells #[.pointer none, .slice none 0 0] 79)) (by have := HB0.out; omega)
  rw [show (w1.setCell ⟨p, 1, none⟩ (.int .i64 (wrap64 ((k : Int) + 1)))).heap.size = w1.heap.size by simp] at HBd
  have HRc := Lib.hid HRb
  have HMc := Lib.hid HMb
  have HBc := Lib.hid HBd
  clear HRa HMa HBd HRb HMb c1 z1 HM1 HR1 HR
  go_loopg [5, 6, 24, 25, 26, 27, 28, 29, 30, 31, 32, 33, 34, 35, 36, 37, 38, 39, 40, 41, 42, 43] s.size (fun kx _ _ _ _ _ _ _ _ _ _ _ _ _ _ _ _ _ _ _ _ _ _ wr => ∃ (n : Nat) (zs : List (List UInt8)), k + 1 + n ≤ s.size ∧ s.size - (k + 1 + n) ≤ kx ∧ Hid (Run (stopV 39) (fun _ => stepV) 0 (tl s (k + 1)) n zs ∧ zs.flatten.length ≤ 4 * n) ∧ Aside (Rd wr p s (k + 1 + n) f m) ∧ Aside (Mv p w wr) ∧ Aside (Bd wr w1.heap.size zs.flatten))
  case atStart => exact ⟨0, [], hk1, by omega, Lib.hid ⟨Run.start _ _, by simp⟩, HRc.out, HMc.out, HBc.out⟩
  case round =>
    clear HRc HMc HBc HH0
    obtain ⟨n, zs, hn, hkx, HZ, HR, HM, HBd⟩ := hrel
    have HRh := Lib.hid (show Rd wr p s (k + 1 + n) f m from HR)
    have HMh := Lib.hid (show Mv p w wr from HM)
    have HBh := Lib.hid (show Bd wr w1.heap.size zs.flatten from HBd)
    clear HR HM HBd
    have HHg := Lib.hid (fun W hW => here_l W p s (k + 1 + n) f m hW hn HS.out)
    have HTL : Hid ((tl s (k + 1)).drop n = tl s (k + 1 + n)) := Lib.hid (by rw [tl_drop])
    by_cases hc : hd (tl s (k + 1 + n)) = 39
    · have hlt : k + 1 + n < s.size := by have := hd_ne (l := tl s (k + 1 + n)) (by omega); rw [tl_length] at this; omega
      have HT : Hid (valueO (tl s k) = .ok zs.flatten (n + 1 + 1)) := Lib.hid (by
        rw [HV.out, Run.done HZ.out.1 (by rw [HTL.out]; simp [stopV, hc])]; rfl)
      rw [hc] at HHg
      clear hc
      go_wp2_with (first
        | (go_at_call 75; ((with_reducible refine (HHg.out _ HRh.out).mono ?_); rintro e w2 ⟨rfl, hr, hm⟩; have HR2 := Lib.hid hr; have HM2 := Lib.hid (HMh.out.trans hm); have HB2 := Lib.hid (HBh.out.mv hm (by have := HB0.out; omega)); have c1 := hr.c1; have z1 := hr.z 1; clear hr hm))
        | (go_at_call 52; ((refine (stringS _ _ _ (HB2.out.mv ((Mv.refl _ _).set 1 _) (by have := HB0.out; omega))).mono ?_); rintro e w6 ⟨rfl, hbl⟩; have HBL := Lib.hid hbl; clear hbl)))
      go_ret
      rw [HT.out]
      exact ⟨rfl, (HR2.out.at1 (j := k + (n + 1 + 1)) (by have := HS.out; rw [Go.IntWalk.wrap64_in _ (by omega)]; push_cast; omega)).below HBL.out (by have := HB0.out; omega), (HM2.out.set 1 _).below HBL.out (by have := HB0.out; omega)⟩
    · have hs0 : stopV 39 ((tl s (k + 1)).drop n) = false := by rw [HTL.out]; simp [stopV, hc]
      have nq1 : ((hd (tl s (k + 1 + n)) : Int) == 39) = false := beq_eq_false_iff_ne.2 (by omega)
      have nq2 : ((hd (tl s (k + 1 + n)) : Int) != 39) = true := bne_iff_ne.2 (by omega)
      by_cases h6 : hd (tl s (k + 1 + n)) = 60
      · have hst : stepV ((tl s (k + 1)).drop n) = wrongO (tl s (k + 1 + n)) := by rw [HTL.out]; unfold stepV; rw [if_pos (.inl h6)]
        obtain ⟨x, y, hxy⟩ : ∃ x y, failO (k + 1 + n) f (wrongO (α := Unit) (tl s (k + 1 + n))) = some (x, y) := by unfold wrongO; split <;> exact ⟨_, _, rfl⟩
        have HW := Lib.hid (fun W (hW : Rd W p s (k + 1 + n) f m) => wrong_l W p s (k + 1 + n) f m hW hn HS.out (Lib.hid hxy))
        have HXY := Lib.hid (failV HZ.out.1 hs0 (i := k + 1 + n) (k := k) (f := f) rfl (by rw [hst, failO_wrong (β := Unit)]; exact hxy))
        rw [h6] at HHg
        clear hxy hst hc h6 hs0 nq1 nq2
        go_wp2_with (first
          | (go_at_call 75; ((with_reducible refine (HHg.out _ HRh.out).mono ?_); rintro e w2 ⟨rfl, hr, hm⟩; have HR2 := Lib.hid hr; have HM2 := Lib.hid (HMh.out.trans hm); have HB2 := Lib.hid (HBh.out.mv hm (by have := HB0.out; omega)); have c1 := hr.c1; have z1 := hr.z 1; clear hr hm))
          | (go_at_call 75; ((with_reducible refine (HHg.out _ HR2.out).mono ?_); rintro e w3 ⟨rfl, hr, hm⟩; have HR3 := Lib.hid hr; have HM3 := Lib.hid (Mv.trans HM2.out hm); have HB3 := Lib.hid (Bd.mv HB2.out hm (by have := HB0.out; omega)); have c2 := hr.c1; have z2 := hr.z 1; clear hr hm))
          | (go_at_call 76; ((with_reducible refine (HW.out _ HR3.out).mono ?_); rintro e w4 ⟨rfl, hm⟩; have HM4 := Lib.hid (Mv.trans HM3.out hm); clear hm)))
        exact ⟨rfl, by rw [HV.out]; exact RdPost.fail HXY.out HM4.out⟩
      by_cases h7 : hd (tl s (k + 1 + n)) = 0
      · have hst : stepV ((tl s (k + 1)).drop n) = wrongO (tl s (k + 1 + n)) := by rw [HTL.out]; unfold stepV; rw [if_pos (.inr h7)]
        obtain ⟨x, y, hxy⟩ : ∃ x y, failO (k + 1 + n) f (wrongO (α := Unit) (tl s (k + 1 + n))) = some (x, y) := by unfold wrongO; split <;> exact ⟨_, _, rfl⟩
        have HW := Lib.hid (fun W (hW : Rd W p s (k + 1 + n) f m) => wrong_l W p s (k + 1 + n) f m hW hn HS.out (Lib.hid hxy))
        have HXY := Lib.hid (failV HZ.out.1 hs0 (i := k + 1 + n) (k := k) (f := f) rfl (by rw [hst, failO_wrong (β := Unit)]; exact hxy))
        rw [h7] at HHg
        clear hxy hst hc h7 hs0 nq1 nq2 h6
        go_wp2_with (first
          | (go_at_call 75; ((with_reducible refine (HHg.out _ HRh.out).mono ?_); rintro e w2 ⟨rfl, hr, hm⟩; have HR2 := Lib.hid hr; have HM2 := Lib.hid (HMh.out.trans hm); have HB2 := Lib.hid (HBh.out.mv hm (by have := HB0.out; omega)); have c1 := hr.c1; have z1 := hr.z 1; clear hr hm))
          | (go_at_call 75; ((with_reducible refine (HHg.out _ HR2.out).mono ?_); rintro e w3 ⟨rfl, hr, hm⟩; have HR3 := Lib.hid hr; have HM3 := Lib.hid (Mv.trans HM2.out hm); have HB3 := Lib.hid (Bd.mv HB2.out hm (by have := HB0.out; omega)); have c2 := hr.c1; have z2 := hr.z 1; clear hr hm))
          | (go_at_call 76; ((with_reducible refine (HW.out _ HR3.out).mono ?_); rintro e w4 ⟨rfl, hm⟩; have HM4 := Lib.hid (Mv.trans HM3.out hm); clear hm)))
        exact ⟨rfl, by rw [HV.out]; exact RdPost.fail HXY.out HM4.out⟩
      have hlt : k + 1 + n < s.size := by have := hd_ne h7; rw [tl_length] at this; omega
      have n60 : ((hd (tl s (k + 1 + n)) : Int) == 60) = false := beq_eq_false_iff_ne.2 (by omega)
      have n0 : ((hd (tl s (k + 1 + n)) : Int) == 0) = false := beq_eq_false_iff_ne.2 (by omega)
      have hst : stepV (tl s (k + 1 + n)) = if isW (hd (tl s (k + 1 + n))) = true then (pieceO (tl s (k + 1 + n))).map (fun _ => [32]) else pieceO (tl s (k + 1 + n)) := by
        conv => lhs; unfold stepV
        rw [if_neg (by omega)]
      have HPg := Lib.hid (fun W (hW : Rd W p s (k + 1 + n) f m) (hgW : Glob W) => piece_any W p s (k + 1 + n) f m hW hgW hp hlt HS.out)
      have hle : ∀ a j, pieceO (tl s (k + 1 + n)) = .ok a j → 1 ≤ j ∧ j ≤ s.size - (k + 1 + n) ∧ a.length ≤ 4 := fun a j hj => by
        have h1 := pieceO_le (by rintro h0; rw [h0] at h7; exact h7 rfl) hj
        rw [tl_length] at h1
        exact ⟨h1.1, h1.2.1, pieceO_len hj⟩
      clear hc h6 h7
      cases hpo : pieceO (tl s (k + 1 + n)) with
      | ok a j =>
        have HP := Lib.hid (fun W (hW : Rd W p s (k + 1 + n) f m) (hgW : Glob W) => RdPost.is_ok (HPg.out W hW hgW) hpo)
        obtain ⟨hj1, hj2, hal⟩ := hle a j hpo
        have HLen : Hid (a.length ≤ 4 ∧ k + 1 + n < s.size ∧ s.size ≤ 65536) := Lib.hid ⟨hal, hlt, HS.out⟩
        cases hw : isW (hd (tl s (k + 1 + n))) with
        | true =>
          rw [hw, if_pos rfl, hpo] at hst
          have HN : Hid (Run (stopV 39) (fun _ => stepV) 0 (tl s (k + 1)) (n + j) (zs ++ [[32]]) ∧ (zs ++ [[32]]).flatten.length ≤ 4 * (n + j)) := Lib.hid ⟨HZ.out.1.on (goodV 39) hs0 (by rw [HTL.out]; exact hst), by have := HZ.out.2; simp at this ⊢; omega⟩
          have HWH := Lib.hid (fun W => white_is (hd (tl s (k + 1 + n))) true hw.symm W)
          clear hst hs0 hw hpo hle HPg hal
          generalize hd (tl s (k + 1 + n)) = c at *
          go_wp2_with (first
            | (go_at_call 75; ((with_reducible refine (HHg.out _ HRh.out).mono ?_); rintro e w2 ⟨rfl, hr, hm⟩; have HR2 := Lib.hid hr; have HM2 := Lib.hid (HMh.out.trans hm); have HB2 := Lib.hid (HBh.out.mv hm (by have := HB0.out; omega)); have c1 := hr.c1; have z1 := hr.z 1; clear hr hm))
            | (go_at_call 75; ((with_reducible refine (HHg.out _ HR2.out).mono ?_); rintro e w3 ⟨rfl, hr, hm⟩; have HR3 := Lib.hid hr; have HM3 := Lib.hid (Mv.trans HM2.out hm); have HB3 := Lib.hid (Bd.mv HB2.out hm (by have := HB0.out; omega)); have c2 := hr.c1; have z2 := hr.z 1; clear hr hm))
            | (go_at_call 78; ((with_reducible refine (HP.out _ HR3.out (HG.out.mv HM3.out hp)).mono ?_); rintro e w4 ⟨rfl, hr, hm⟩; have HR4 := Lib.hid hr; have HM4 := Lib.hid (Mv.trans HM3.out hm); have HB4 := Lib.hid (Bd.mv HB3.out hm (by have := HB0.out; omega)); clear hr hm))
            | (go_at_call 61; ((with_reducible refine (HWH.out _).mono ?_); rintro e w5 ⟨rfl, rfl⟩))
            | (go_at_call 50; ((refine (writeS _ _ _ ([32]) HB4.out (by have := HLen.out; have := HZ.out.2; (try simp only [List.length_cons, List.length_nil]); omega)).mono ?_); rintro e w6 ⟨rfl, hb, hbl⟩; have HB5 := Lib.hid hb; have HR5 := Lib.hid (HR4.out.below hbl (by have := HB0.out; omega)); have HM5 := Lib.hid (HM4.out.below hbl (by have := HB0.out; omega)); clear hb hbl)))
          go_roundg (s.size - (k + 1 + (n + j)))
          case measure => omega
          case rel => exact ⟨n + j, zs ++ [[32]], by omega, Nat.le_refl _, HN, by rw [← Nat.add_assoc]; exact HR5.out, HM5.out, by (show Bd _ _ _); simpa using HB5.out⟩
        | false =>
          rw [hw, if_neg (by simp), hpo] at hst
          have HN : Hid (Run (stopV 39) (fun _ => stepV) 0 (tl s (k + 1)) (n + j) (zs ++ [a]) ∧ (zs ++ [a]).flatten.length ≤ 4 * (n + j)) := Lib.hid ⟨HZ.out.1.on (goodV 39) hs0 (by rw [HTL.out]; exact hst), by have := HZ.out.2; simp at this ⊢; omega⟩
          have HWH := Lib.hid (fun W => white_is (hd (tl s (k + 1 + n))) false hw.symm W)
          clear hst hs0 hw hpo hle HPg hal
          generalize hd (tl s (k + 1 + n)) = c at *
          go_wp2_with (first
            | (go_at_call 75; ((with_reducible refine (HHg.out _ HRh.out).mono ?_); rintro e w2 ⟨rfl, hr, hm⟩; have HR2 := Lib.hid hr; have HM2 := Lib.hid (HMh.out.trans hm); have HB2 := Lib.hid (HBh.out.mv hm (by have := HB0.out; omega)); have c1 := hr.c1; have z1 := hr.z 1; clear hr hm))
            | (go_at_call 75; ((with_reducible refine (HHg.out _ HR2.out).mono ?_); rintro e w3 ⟨rfl, hr, hm⟩; have HR3 := Lib.hid hr; have HM3 := Lib.hid (Mv.trans HM2.out hm); have HB3 := Lib.hid (Bd.mv HB2.out hm (by have := HB0.out; omega)); have c2 := hr.c1; have z2 := hr.z 1; clear hr hm))
            | (go_at_call 78; ((with_reducible refine (HP.out _ HR3.out (HG.out.mv HM3.out hp)).mono ?_); rintro e w4 ⟨rfl, hr, hm⟩; have HR4 := Lib.hid hr; have HM4 := Lib.hid (Mv.trans HM3.out hm); have HB4 := Lib.hid (Bd.mv HB3.out hm (by have := HB0.out; omega)); clear hr hm))
            | (go_at_call 61; ((with_reducible refine (HWH.out _).mono ?_); rintro e w5 ⟨rfl, rfl⟩))
            | (go_at_call 50; ((refine (writeS _ _ _ (a) HB4.out (by have := HLen.out; have := HZ.out.2; (try simp only [List.length_cons, List.length_nil]); omega)).mono ?_); rintro e w6 ⟨rfl, hb, hbl⟩; have HB5 := Lib.hid hb; have HR5 := Lib.hid (HR4.out.below hbl (by have := HB0.out; omega)); have HM5 := Lib.hid (HM4.out.below hbl (by have := HB0.out; omega)); clear hb hbl)))
          go_roundg (s.size - (k + 1 + (n + j)))
          case measure => omega
          case rel => exact ⟨n + j, zs ++ [a], by omega, Nat.le_refl _, HN, by rw [← Nat.add_assoc]; exact HR5.out, HM5.out, by (show Bd _ _ _); simpa using HB5.out⟩
      | bad d y =>
        have HP := Lib.hid (fun W (hW : Rd W p s (k + 1 + n) f m) (hgW : Glob W) => RdPost.is_fail (x := k + 1 + n + d) (c := y) (HPg.out W hW hgW) (by rw [hpo]; rfl))
        have HXY := Lib.hid (failV HZ.out.1 hs0 (i := k + 1 + n) (k := k) (f := f) (x := k + 1 + n + d) (y := y) rfl (by rw [HTL.out, hst, hpo]; split <;> rfl))
        clear hst hs0 hpo hle HPg
        generalize hd (tl s (k + 1 + n)) = c at *
        go_wp2_with (first
          | (go_at_call 75; ((with_reducible refine (HHg.out _ HRh.out).mono ?_); rintro e w2 ⟨rfl, hr, hm⟩; have HR2 := Lib.hid hr; have HM2 := Lib.hid (HMh.out.trans hm); have HB2 := Lib.hid (HBh.out.mv hm (by have := HB0.out; omega)); have c1 := hr.c1; have z1 := hr.z 1; clear hr hm))
          | (go_at_call 75; ((with_reducible refine (HHg.out _ HR2.out).mono ?_); rintro e w3 ⟨rfl, hr, hm⟩; have HR3 := Lib.hid hr; have HM3 := Lib.hid (Mv.trans HM2.out hm); have HB3 := Lib.hid (Bd.mv HB2.out hm (by have := HB0.out; omega)); have c2 := hr.c1; have z2 := hr.z 1; clear hr hm))
          | (go_at_call 78; ((with_reducible refine (HP.out _ HR3.out (HG.out.mv HM3.out hp)).mono ?_); rintro e w4 ⟨rfl, hm⟩; have HM4 := Lib.hid (Mv.trans HM3.out hm); clear hm)))
        exact ⟨rfl, by rw [HV.out]; exact RdPost.fail HXY.out HM4.out⟩
      | un =>
        have HP := Lib.hid (fun W (hW : Rd W p s (k + 1 + n) f m) (hgW : Glob W) => RdPost.is_fail (x := f) (c := 84) (HPg.out W hW hgW) (by rw [hpo]; rfl))
        have HXY := Lib.hid (failV HZ.out.1 hs0 (i := k + 1 + n) (k := k) (f := f) (x := f) (y := 84) rfl (by rw [HTL.out, hst, hpo]; split <;> rfl))
        clear hst hs0 hpo hle HPg
        generalize hd (tl s (k + 1 + n)) = c at *
        go_wp2_with (first
          | (go_at_call 75; ((with_reducible refine (HHg.out _ HRh.out).mono ?_); rintro e w2 ⟨rfl, hr, hm⟩; have HR2 := Lib.hid hr; have HM2 := Lib.hid (HMh.out.trans hm); have HB2 := Lib.hid (HBh.out.mv hm (by have := HB0.out; omega)); have c1 := hr.c1; have z1 := hr.z 1; clear hr hm))
          | (go_at_call 75; ((with_reducible refine (HHg.out _ HR2.out).mono ?_); rintro e w3 ⟨rfl, hr, hm⟩; have HR3 := Lib.hid hr; have HM3 := Lib.hid (Mv.trans HM2.out hm); have HB3 := Lib.hid (Bd.mv HB2.out hm (by have := HB0.out; omega)); have c2 := hr.c1; have z2 := hr.z 1; clear hr hm))
          | (go_at_call 78; ((with_reducible refine (HP.out _ HR3.out (HG.out.mv HM3.out hp)).mono ?_); rintro e w4 ⟨rfl, hm⟩; have HM4 := Lib.hid (Mv.trans HM3.out hm); clear hm)))
        exact ⟨rfl, by rw [HV.out]; exact RdPost.fail HXY.out HM4.out⟩

set_option maxHeartbeats 2000000 in
set_option maxRecDepth 100000 in
theorem value_no (w : World) (p : Nat) (s : ByteArray) (k f : Nat) (m : Value) (h : Rd w p s k f m) (hk : k ≤ s.size) (hs : s.size ≤ 65536) (h34 : hd (tl s k) ≠ 34) (h39 : hd (tl s k) ≠ 39) :
    Calls Tryz.prog 90 #[.pointer (some ⟨p, 0, none⟩)] w (RdPost w p s k f m (valueO (tl s k)) strV) := by
  have HH := Lib.hid (here_l w p s k f m h hk hs)
  have HV : Hid (valueO (tl s k) = wrongO (tl s k)) := Lib.hid (by unfold valueO; rw [if_pos ⟨h34, h39⟩])
  obtain ⟨x, y, hxy⟩ : ∃ x y, failO k f (wrongO (α := Unit) (tl s k)) = some (x, y) := by unfold wrongO; split <;> exact ⟨_, _, rfl⟩
  have HW := Lib.hid (fun W (hW : Rd W p s k f m) => wrong_l W p s k f m hW hk hs (Lib.hid hxy))
  have HXY := Lib.hid hxy
  have n1 : ((hd (tl s k) : Int) != 34) = true := bne_iff_ne.2 (by omega)
  have n2 : ((hd (tl s k) : Int) != 39) = true := bne_iff_ne.2 (by omega)
  have n3 : ((hd (tl s k) : Int) == 34) = false := beq_eq_false_iff_ne.2 (by omega)
  have n4 : ((hd (tl s k) : Int) == 39) = false := beq_eq_false_iff_ne.2 (by omega)
  clear h hs h34 h39 hxy
  generalize hd (tl s k) = c at *
  go_enter Tryz.func90, Tryz.ntmps90
  go_wp2_with (first
    | (go_at_call 75; refine HH.out.mono ?_; rintro e w1 ⟨rfl, hr, hm⟩; have HR1 := Lib.hid hr; have HM1 := Lib.hid hm; clear hr hm)
    | (go_at_call 76; refine (HW.out _ HR1.out).mono ?_; rintro e w4 ⟨rfl, hm⟩; have HM4 := Lib.hid (Mv.trans HM1.out hm); clear hm))
  exact ⟨rfl, by rw [HV.out]; exact RdPost.fail (by rw [failO_wrong (β := Unit)]; exact HXY.out) HM4.out⟩
theorem value_any (w : World) (p : Nat) (s : ByteArray) (k f : Nat) (m : Value) (h : Rd w p s k f m) (hG : Glob w) (hp : 9 ≤ p) (hk : k ≤ s.size) (hs : s.size ≤ 65536) :
    Calls Tryz.prog 90 #[.pointer (some ⟨p, 0, none⟩)] w (RdPost w p s k f m (valueO (tl s k)) strV) := by
  by_cases h34 : hd (tl s k) = 34
  · exact value_34 w p s k f m h hG hp hk hs h34
  by_cases h39 : hd (tl s k) = 39
  · exact value_39 w p s k f m h hG hp hk hs h39
  exact value_no w p s k f m h hk hs h34 h39
end Go.Proofs.YtbokcihlbpeagaaGreatDoor
