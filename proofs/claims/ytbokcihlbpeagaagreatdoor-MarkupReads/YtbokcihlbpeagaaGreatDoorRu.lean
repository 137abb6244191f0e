/-
  What is proved: contracts of markup's document and check. Conditions: those in each statement.
-/
import Derived.Test.YtbokcihlbpeagaaGreatDoorRt
namespace Go.Proofs.YtbokcihlbpeagaaGreatDoor
open Go.RowKit

theorem Out.fin_not {α : Type} (o : Out α) : o.fin ≠ .un := by cases o <;> simp [Out.fin]
/-- what document does -/
def DmPost (w : World) (p : Nat) (s : ByteArray) (o : Out (List Mk)) (e : Ending) (w' : World) : Prop := Mv p w w' ∧ match o with
  | .ok ms n => e = .returned (.tuple #[]) ∧ ∃ B f', w.heap.size ≤ B ∧ St w' B p s n f' ms
  | .bad d c => e = flt d c
  | .un => False
theorem Mq.toV {p B : Nat} {w w' : World} (h : Mq p B w w') (hB : w.heap.size ≤ B) : Mv p w w' := ⟨h.os, h.tape, h.output, h.size, fun b hb hn => h.block b hb (by rintro (e | e); exact hn e; omega)⟩
theorem WaysB.mq {w w' : World} {g p B : Nat} (h : WaysB w g) (hm : Mq p B w w') (hp : g ≠ p) (hB : g < B) : WaysB w' g := by
  have hl := heap_lt h
  unfold WaysB at h ⊢
  rw [hm.block g hl (by rintro (e | e); exact hp e; omega)]; exact h
theorem WaysB.mv {w w' : World} {g p : Nat} (h : WaysB w g) (hm : Mv p w w') (hp : g ≠ p) : WaysB w' g := by
  have hl := heap_lt h
  unfold WaysB at h ⊢
  rw [hm.block g hl hp]; exact h
theorem Mq.drewN {p B : Nat} {a b : World} (h : Mq p B a b) (n : Nat) : Mq p B a (b.drewN n) := ⟨h.os, h.tape, h.output, h.size, h.block⟩
theorem Glob.mq {w w' : World} {p B : Nat} (h : Glob w) (hm : Mq p B w w') (hp : 9 ≤ p) (hB : 9 ≤ B) : Glob w' :=
  h.keep hm.size (fun b hb => hm.block b (by have := h.size; omega) (by rintro (e | e) <;> omega))
/-- a step of next, by its outcome -/
theorem NxPost.ways {w w' : World} {B p k : Nat} {s : ByteArray} {ms : List Mk} {o : Out (Option Mk)} {e : Ending} (h : NxPost w B p s k ms o e w') :
    (∃ x n f', o.fin = .ok x n ∧ e = .returned (.tuple #[]) ∧ St w' B p s (k + n) f' (ms ++ x.toList) ∧ Mq p B w w') ∨ (∃ d c, o.fin = .bad d c ∧ e = flt (k + d) c ∧ Mq p B w w') := by
  cases o with
  | ok x n => obtain ⟨h1, ⟨f', h2⟩, h3⟩ := h; exact .inl ⟨x, n, f', rfl, h1, h2, h3⟩
  | bad d c => obtain ⟨h1, h3⟩ := h; exact .inr ⟨d, c, rfl, h1, h3⟩
  | un => obtain ⟨h1, h3⟩ := h; exact .inr ⟨0, 84, rfl, h1, h3⟩
theorem fm_snoc (zs : List (Option Mk)) (x : Option Mk) : (zs ++ [x]).filterMap id = zs.filterMap id ++ x.toList := by
  rw [List.filterMap_append]
  cases x <;> rfl

set_option maxHeartbeats 4000000 in
set_option maxRecDepth 100000 in
theorem document_f (w : World) (p : Nat) (s : ByteArray) (h : Rd w p s 0 0 (.slice none 0 0)) (hG : Glob w) (hp : 9 ≤ p) (hs : s.size ≤ 65536) {x : Nat} {c : Int} (hx : failO 0 0 (declO (tl s 0)) = some (x, c)) :
    Calls Tryz.prog 21 #[.pointer (some ⟨p, 0, none⟩)] w (DmPost w p s (marksO (tl s 0)) ) := by
  have HWY := Lib.hid (ways_any w)
  have HD := Lib.hid (fun W (hW : Rd W p s 0 0 (.slice none 0 0)) (hgW : Glob W) => RdPost.is_fail (declaration_any W p s _ hW hgW hs) hx)
  have HO : Hid (marksO (tl s 0) = .bad x c) := Lib.hid (by
    unfold marksO
    cases ho : declO (tl s 0) with
    | ok a n => rw [ho] at hx; cases hx
    | bad d y => rw [ho] at hx; cases hx; rw [Nat.zero_add]; rfl
    | un => rw [ho] at hx; cases hx; rfl)
  have HR := Lib.hid h
  have HG := Lib.hid hG
  have HX : Hid (9 ≤ p ∧ p < w.heap.size) := Lib.hid ⟨hp, h.lt⟩
  clear h hG hp hs hx
  go_enter Tryz.func21, Tryz.ntmps21
  go_wp2_with (first
    | (go_at_call 38; refine HWY.out.mono ?_; rintro e w2 ⟨rfl, hw, hb⟩; have HR2 := Lib.hid (HR.out.below hb HX.out.2); have HM2 := Lib.hid ((Mv.refl p w).below hb (Nat.le_refl _)); clear hw hb)
    | (go_at_call 39; refine (HD.out _ HR2.out (HG.out.mv HM2.out HX.out.1)).mono ?_; rintro e w3 ⟨rfl, hm⟩; have HM3 := Lib.hid (HM2.out.trans hm); clear hm))
  rw [HO.out]
  exact ⟨rfl, HM3.out, rfl⟩
set_option maxHeartbeats 4000000 in
set_option maxRecDepth 100000 in
theorem document_go (w : World) (p : Nat) (s : ByteArray) (h : Rd w p s 0 0 (.slice none 0 0)) (hG : Glob w) (hp : 9 ≤ p) (hs : s.size ≤ 65536) {n : Nat} (hx : declO (tl s 0) = .ok () n) (hn : n ≤ s.size) :
    Calls Tryz.prog 21 #[.pointer (some ⟨p, 0, none⟩)] w (DmPost w p s (marksO (tl s 0))) := by
  have HWY := Lib.hid (ways_any w)
  have HD := Lib.hid (fun W (hW : Rd W p s 0 0 (.slice none 0 0)) (hgW : Glob W) => RdPost.is_ok (declaration_any W p s _ hW hgW hs) hx)
  have HO : Hid (marksO (tl s 0) = ((loop (fun l => l.isEmpty) (fun k l => (stepD k l).fin) n (tl s n)).map (List.filterMap id)).on n) := Lib.hid (by
    unfold marksO docO
    rw [hx]
    show ((loop _ _ n ((tl s 0).drop n)).map (List.filterMap id)).on n = _
    rw [tl_drop, Nat.zero_add])
  have HR := Lib.hid h
  have HG := Lib.hid hG
  have HX : Hid (9 ≤ p ∧ p < w.heap.size ∧ s.size ≤ 65536) := Lib.hid ⟨hp, h.lt, hs⟩
  clear h hG hp hs hx
  go_enter Tryz.func21, Tryz.ntmps21
  go_wp2_with (first
    | (go_at_call 38; refine HWY.out.mono ?_; rintro e w2 ⟨rfl, hw, hb⟩; have HW2 := Lib.hid hw; have HR2 := Lib.hid (HR.out.below hb HX.out.2.1); have HM2 := Lib.hid ((Mv.refl p w).below hb (Nat.le_refl _)); clear hw hb)
    | (go_at_call 39; refine (HD.out _ HR2.out (HG.out.mv HM2.out HX.out.1)).mono ?_; rintro e w3 ⟨rfl, hr, hm⟩; have HR3 := Lib.hid hr; have HM3 := Lib.hid (HM2.out.trans hm); have HW3 := Lib.hid (HW2.out.mv hm (by have := HX.out; omega)); clear hr hm))
  have HG3 := Lib.hid (HG.out.mv HM3.out HX.out.1)
  have HS3 : Hid (w.heap.size < w3.heap.size ∧ 9 ≤ w.heap.size) := Lib.hid ⟨heap_lt HW3.out, HG.out.size⟩
  clear HW2 HR2 HM2 HD HWY
  go_loopg [6, 7, 8, 9, 10, 11, 12, 13, 14, 15, 16, 17, 18] s.size (fun kx _ _ _ _ _ _ _ _ _ _ _ _ _ wr => ∃ (j : Nat) (zs : List (Option Mk)) (f' : Nat), n + j ≤ s.size ∧ s.size - (n + j) ≤ kx ∧ Hid (Run (fun l => l.isEmpty) (fun k l => (stepD k l).fin) n (tl s n) j zs ∧ (zs.filterMap id).length ≤ j) ∧ Aside (St wr w3.heap.size p s (n + j) f' (zs.filterMap id)) ∧ Aside (Mq p w3.heap.size w3 wr) ∧ Aside (WaysB wr w.heap.size) ∧ Aside (Glob wr))
  case atStart => exact ⟨0, [], 0, hn, by omega, Lib.hid ⟨Run.start _ _, by simp⟩, ⟨_, [], rfl, by have := HR3.out; rw [Nat.zero_add] at this; exact this, MR.nil _ _⟩, Chg.refl _ _, HW3.out, HG3.out⟩
  case round =>
    clear HR3 HW3 HG3
    obtain ⟨j, zs, f', hj, hkx, HRun, hSt, hMq, hWy, hGl⟩ := hrel
    have HSt := Lib.hid (show St wr w3.heap.size p s (n + j) f' (zs.filterMap id) from hSt)
    have HMq := Lib.hid (show Mq p w3.heap.size w3 wr from hMq)
    have HWy := Lib.hid (show WaysB wr w.heap.size from hWy)
    have HGl := Lib.hid (show Glob wr from hGl)
    clear hSt hMq hWy hGl
    obtain ⟨mv, zz, hzz, hrd, hmr⟩ := HSt.out
    have c0 := hrd.c0
    have c1 := hrd.c1
    clear hzz hrd hmr
    have HTL : Hid ((tl s n).drop j = tl s (n + j)) := Lib.hid (by rw [tl_drop])
    by_cases he : n + j = s.size
    · have HT : Hid (marksO (tl s 0) = .ok (zs.filterMap id) (j + n)) := Lib.hid (by
        rw [HO.out, Run.done HRun.out.1 (by rw [HTL.out, (tl_nil hj).2 he]; rfl)]; rfl)
      have HK : Hid (j + n = n + j) := Lib.hid (by omega)
      have d1 : decide (((n + j : Nat) : Int) < (s.size : Int)) = false := decide_eq_false (by omega)
      have d2 : decide ((n : Int) + (j : Int) < (s.size : Int)) = false := decide_eq_false (by omega)
      have d3 : decide (n + j < s.size) = false := decide_eq_false (by omega)
      clear he
      go_wp2_with fail
      go_quiet (fail)
      go_wp2_with fail
      go_end0
      rw [HT.out]
      refine ⟨(HM3.out.trans (Mq.toV HMq.out (Nat.le_refl _))).drewN _, rfl, w3.heap.size, f', by have := HS3.out; omega, ?_⟩
      rw [HK.out]
      obtain ⟨mv, zz, hzz, hrd, hmr⟩ := HSt.out
      exact ⟨mv, zz, hzz, hrd.drewN _, hmr.keep fun _ _ _ _ _ _ => rfl⟩
    · have hlt : n + j < s.size := by omega
      have hltz : ((n + j : Nat) : Int) < (s.size : Int) := by omega
      have hltz2 : (n : Int) + (j : Int) < (s.size : Int) := by omega
      have hs0 : ((tl s n).drop j).isEmpty = false := by rw [HTL.out]; simp [(tl_nil hj), he]
      have hB3 : w3.heap.size ≤ wr.heap.size := HMq.out.size
      have HNX := Lib.hid (fun m => nextW_any (wr.drewN m) w3.heap.size p s (n + j) f' (zs.filterMap id) (by
        obtain ⟨mv, zz, hzz, hrd, hmr⟩ := HSt.out
        exact ⟨mv, zz, hzz, hrd.drewN m, hmr.keep fun _ _ _ _ _ _ => rfl⟩) (HGl.out.drewN m) HX.out.1 hB3 hlt HX.out.2.2 (by have := HRun.out.2; have := HX.out; omega) w.heap.size (HWy.out.drewN m))
      have hle : ∀ x m, (stepD (n + j) (tl s (n + j))).fin = .ok x m → 1 ≤ m ∧ m ≤ s.size - (n + j) := fun x m hm => by
        have h1 := stepD_le (by intro h0; exact he ((tl_nil hj).1 h0)) (Out.fin_ok hm)
        rw [tl_length] at h1
        exact h1
      have HLE := Lib.hid hle
      have HS0 := Lib.hid hs0
      clear he hle hs0
      go_wp2_with fail
      go_quiet (fail)
      go_wp2_with (go_at_call 40; refine (HNX.out _).mono ?_; rintro e w5 hpost; rcases hpost.ways with ⟨x, m, f2, ho, rfl, hst, hmq⟩ | ⟨d, c, ho, rfl, hmq⟩ <;> (have HOO := Lib.hid ho) <;> (have HMQ4 := Lib.hid hmq) <;> (have HMQ5 := Lib.hid ((Chg.trans (S1 := fun b => b = p ∨ w3.heap.size ≤ b) (HMq.out.drewN nq) hmq (fun _ _ e => e) : Mq p w3.heap.size w3 w5))) <;> (try have HST5 := Lib.hid hst) <;> (try clear hst) <;> clear ho hmq hpost)
      · have hlm := HLE.out x m HOO.out
        have HN : Hid (Run (fun l => l.isEmpty) (fun k l => (stepD k l).fin) n (tl s n) (j + m) (zs ++ [x]) ∧ ((zs ++ [x]).filterMap id).length ≤ j + m) := Lib.hid ⟨HRun.out.1.on goodD HS0.out (by rw [HTL.out]; exact HOO.out), by
          rw [fm_snoc, List.length_append]
          have := HRun.out.2
          have : x.toList.length ≤ 1 := by cases x <;> simp
          omega⟩
        go_roundg (s.size - (n + (j + m)))
        case measure => omega
        case rel => exact ⟨j + m, zs ++ [x], f2, by omega, Nat.le_refl _, HN, by rw [← Nat.add_assoc, fm_snoc]; exact HST5.out, HMQ5.out, (HWy.out.drewN nq).mq HMQ4.out (by have := HX.out; omega) HS3.out.1, HG.out.mv (HM3.out.trans (Mq.toV HMQ5.out (Nat.le_refl _))) HX.out.1⟩
      · have HT : Hid (marksO (tl s 0) = .bad (n + j + d) c) := Lib.hid (by
          rw [HO.out, Run.bad HRun.out.1 HS0.out (by rw [HTL.out]; exact HOO.out)]
          show Out.bad (d + j + n) c = _
          rw [show d + j + n = n + j + d by omega])
        rw [HT.out]
        exact ⟨rfl, HM3.out.trans (Mq.toV HMQ5.out (Nat.le_refl _)), rfl⟩
theorem document_any (w : World) (p : Nat) (s : ByteArray) (h : Rd w p s 0 0 (.slice none 0 0)) (hG : Glob w) (hp : 9 ≤ p) (hs : s.size ≤ 65536) :
    Calls Tryz.prog 21 #[.pointer (some ⟨p, 0, none⟩)] w (DmPost w p s (marksO (tl s 0))) := by
  cases hx : declO (tl s 0) with
  | ok a n =>
    refine document_go w p s h hG hp hs (n := n) (by rw [hx]) ?_
    unfold declO at hx
    by_cases hd : declB (tl s 0) = true
    · rw [if_pos hd] at hx
      obtain ⟨b, hb, _⟩ := Out.map_ok hx
      have := upO_le hb
      rw [tl_length] at this
      omega
    · rw [if_neg hd] at hx; cases hx; omega
  | bad d y => exact document_f w p s h hG hp hs (by rw [hx]; rfl)
  | un => exact document_f w p s h hG hp hs (by rw [hx]; rfl)

/-- the first place of no character -/
def chF : Nat → List UInt8 → Nat → Option Nat
  | 0, _, _ => none
  | m + 1, l, k => if l = [] then none else if isC (nx l).1 then chF m (l.drop (nx l).2) (k + (nx l).2) else some k
def chO (l : List UInt8) (k : Nat) : Option Nat := chF (l.length + 1) l k
theorem nx_c {l : List UInt8} (h : isC (nx l).1) : 1 ≤ (nx l).2 ∧ (nx l).2 ≤ l.length := by
  rcases nx_read l with h0 | ⟨r, hr, he, _, hl⟩
  · rw [h0] at h; exact absurd h (by decide)
  · rw [he]; exact ⟨(sz_pos hr).1, hl⟩
theorem chF_more (m : Nat) : ∀ (n : Nat) (l : List UInt8) (k : Nat), l.length < m → l.length < n → chF m l k = chF n l k := by
  induction m with
  | zero => intro n l k h; omega
  | succ m ih =>
    intro n l k hm hn
    cases n with
    | zero => omega
    | succ n =>
      simp only [chF]
      by_cases h0 : l = []
      · rw [if_pos h0, if_pos h0]
      · rw [if_neg h0, if_neg h0]
        by_cases h : isC (nx l).1
        · have := nx_c h
          rw [if_pos h, if_pos h, ih n _ _ (by rw [List.length_drop]; omega) (by rw [List.length_drop]; omega)]
        · rw [if_neg h, if_neg h]
theorem chO_nil (k : Nat) : chO [] k = none := rfl
theorem chO_on {l : List UInt8} {k : Nat} (h0 : l ≠ []) (h : isC (nx l).1) : chO l k = chO (l.drop (nx l).2) (k + (nx l).2) := by
  have := nx_c h
  unfold chO
  rw [chF, if_neg h0, if_pos h, chF_more _ ((l.drop (nx l).2).length + 1) _ _ (by rw [List.length_drop]; omega) (by omega)]
theorem chO_no {l : List UInt8} {k : Nat} (h0 : l ≠ []) (h : ¬ isC (nx l).1) : chO l k = some k := by
  unfold chO; rw [chF, if_neg h0, if_neg h]
/-- what is wrong of a document as a text -/
def chkO (l : List UInt8) : Option (Nat × Int) := if 65536 < l.length then some (0, 3) else if 0 ≤ badAt l 0 then some ((badAt l 0).toNat, 71) else (chO l 0).map fun k => (k, 81)
def CkPost (w : World) (o : Option (Nat × Int)) (e : Ending) (w' : World) : Prop := w = w' ∧ match o with
  | none => e = .returned (.tuple #[])
  | some (x, c) => e = flt x c
set_option maxHeartbeats 4000000 in
set_option maxRecDepth 100000 in
theorem check_any (w : World) (s : ByteArray) : Calls Tryz.prog 20 #[.string s] w (CkPost w (chkO s.data.toList)) := by
  by_cases hl : s.size ≤ 65536
  · have HB := Lib.hid (bad_any s w (by omega))
    have hb : bad s = badAt s.data.toList 0 := rfl
    by_cases h0 : 0 ≤ bad s
    · have HO : Hid (chkO s.data.toList = some ((bad s).toNat, 71)) := Lib.hid (by unfold chkO; rw [if_neg (by rw [size_toList]; omega), if_pos (by rw [← hb]; exact h0)]; rfl)
      have HV : Hid (((bad s).toNat : Int) = bad s) := Lib.hid (by omega)
      clear hb
      generalize bad s = z at *
      go_enter Tryz.func20, Tryz.ntmps20
      go_wp2_with (go_at_call 35; refine HB.out.mono ?_; rintro e w2 ⟨rfl, rfl⟩)
      rw [HO.out]
      exact ⟨rfl, rfl, by show _ = flt _ _; unfold flt; rw [HV.out]⟩
    · have HO : Hid (chkO s.data.toList = (chO (tl s 0) 0).map fun k => (k, 81)) := Lib.hid (by unfold chkO; rw [if_neg (by rw [size_toList]; omega), if_neg (by rw [← hb]; exact h0)]; rfl)
      have h0' : ¬ 0 ≤ bad s := h0
      have HS := Lib.hid hl
      clear hb
      generalize bad s = z at *
      go_enter Tryz.func20, Tryz.ntmps20
      go_wp2_with (go_at_call 35; refine HB.out.mono ?_; rintro e w2 ⟨rfl, rfl⟩)
      go_loopg [3, 4, 5, 18, 19, 20, 21, 22, 23, 24, 25, 26, 27, 28, 29, 30, 31, 32, 33, 34, 35, 36] s.size (fun kx v3 _ _ _ _ _ _ _ _ _ _ _ _ _ _ _ _ _ _ _ _ _ wr => ∃ k : Nat, v3 = .int .i64 (k : Int) ∧ k ≤ s.size ∧ s.size - k ≤ kx ∧ Hid (chO (tl s 0) 0 = chO (tl s k) k) ∧ Aside (w = wr))
      case atStart => exact ⟨0, rfl, Nat.zero_le _, by omega, Lib.hid rfl, rfl⟩
      case round =>
        obtain ⟨k, rfl, hk, hkx, HC, hww⟩ := hrel
        obtain rfl : w = wr := hww
        by_cases he : k < s.size
        · have hne : tl s k ≠ [] := fun h => by have := (tl_nil hk).1 h; omega
          have HNX := Lib.hid (fun W => next_any s (k : Int) W (by have := HS.out; omega))
          rw [nxAt_nat, show s.data.toList.drop k = tl s k from rfl] at HNX
          have hnl := nx_le (tl s k)
          rw [tl_length] at hnl
          by_cases hc : isC (nx (tl s k)).1
          · have hpos := nx_c hc
            have HN : Hid (chO (tl s 0) 0 = chO (tl s (k + (nx (tl s k)).2)) (k + (nx (tl s k)).2)) := Lib.hid (by rw [HC.out, chO_on hne hc, tl_drop])
            have HCH := Lib.hid (fun W => char_is (nx (tl s k)).1 true (decide_eq_true hc).symm W)
            clear hc hne
            generalize nx (tl s k) = X at *
            obtain ⟨r, m⟩ := X
            go_wp2_with (first
              | (go_at_call 36; refine (HNX.out _).mono ?_; rintro e w2 ⟨rfl, rfl⟩)
              | (go_at_call 37; refine (HCH.out _).mono ?_; rintro e w2 ⟨rfl, rfl⟩))
            go_roundg (s.size - (k + m))
            case measure => omega
            case rel => exact ⟨k + m, by push_cast; rfl, by omega, Nat.le_refl _, HN, rfl⟩
          · have HT : Hid (chkO s.data.toList = some (k, 81)) := Lib.hid (by rw [HO.out, HC.out, chO_no hne hc]; rfl)
            have HCH := Lib.hid (fun W => char_is (nx (tl s k)).1 false (decide_eq_false hc).symm W)
            clear hc hne
            generalize nx (tl s k) = X at *
            obtain ⟨r, m⟩ := X
            go_wp2_with (first
              | (go_at_call 36; refine (HNX.out _).mono ?_; rintro e w2 ⟨rfl, rfl⟩)
              | (go_at_call 37; refine (HCH.out _).mono ?_; rintro e w2 ⟨rfl, rfl⟩))
            rw [HT.out]
            exact ⟨rfl, rfl, rfl⟩
        · have HT : Hid (chkO s.data.toList = none) := Lib.hid (by rw [HO.out, HC.out, (tl_nil hk).2 (by omega), chO_nil]; rfl)
          go_wp2_with fail
          go_end0
          rw [HT.out]
          exact ⟨rfl, rfl⟩
  · have HO : Hid (chkO s.data.toList = some (0, 3)) := Lib.hid (by unfold chkO; rw [if_pos (by rw [size_toList]; omega)])
    have hl2 : (65536 : Int) < (s.size : Int) := by omega
    clear hl
    go_enter Tryz.func20, Tryz.ntmps20
    go_wp2
    rw [HO.out]
    exact ⟨rfl, rfl, rfl⟩
end Go.Proofs.YtbokcihlbpeagaaGreatDoor
