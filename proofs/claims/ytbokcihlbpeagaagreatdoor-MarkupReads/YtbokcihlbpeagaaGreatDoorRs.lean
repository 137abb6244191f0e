/-
  What is proved: contract of markup's startTag. Conditions: those in each statement.
-/
import Derived.Test.YtbokcihlbpeagaaGreatDoorRr
namespace Go.Proofs.YtbokcihlbpeagaaGreatDoor
open Go.RowKit

theorem own_mono {w : World} {B B' : Nat} {e : TypeId} {z : Nat} {v : Value} {n : Nat} {xs : List Value} (h : w.ownsRow B' e z v n xs) (hb : B ≤ B') : w.ownsRow B e z v n xs := by
  refine ⟨h.1, ?_⟩
  rcases h.2 with hn | ⟨g, cap, cur, rfl, h1, r⟩
  · exact .inl hn
  · exact .inr ⟨g, cap, cur, rfl, by omega, r⟩
theorem MR.new_apart {w w' : World} {B B' : Nat} {v av : Value} {zs : List (Mk × Value)} {l : List At3} (h : MR w B v zs) (ha : AR w' B' av l) (hb : w.heap.size ≤ B') : ∀ z ∈ zs, z.2.ownBlock = none ∨ z.2.ownBlock ≠ av.ownBlock := by
  intro z hz
  cases hq : z.2.ownBlock with
  | none => exact .inl rfl
  | some b =>
    refine .inr (fun e => ?_)
    have h1 := ((h.att z hz).lt b hq).2
    have h2 := (ha.lt b e.symm).1
    omega
theorem Rd.heap {w : World} {p : Nat} {s : ByteArray} {k f : Nat} {m : Value} (h : Rd w p s k f m) : w.heap[p]? = some (.cells #[.string s, .int .i64 (k : Int), .int .i64 (f : Int), m] 49 (0, 0)) := h
theorem MkB.heap {w : World} {q : Nat} {nme : List UInt8} {av : Value} {em : Bool} (h : MkB w q nme av em) : w.heap[q]? = some (.cells #[.int .i64 1, .string ⟨nme.toArray⟩, av, .bool em, .string ⟨#[]⟩, .int .i64 0] 36 (0, 0)) := h
theorem AR.setAt {w : World} {B r : Nat} {v : Value} {l : List At3} {C : Array Value} {t : TypeId} {fr : Nat × Nat} (h : AR w B v l) (hr : w.heap[r]? = some (.cells C t fr)) (ht : t ≠ 38) (j : Nat) (u : Value) : AR (w.setCell ⟨r, j, none⟩ u) B v l :=
  h.keep fun b cur _ hb => Below.heap_setCell _ _ _ _ (by
    intro e
    simp only at e
    subst e
    rw [hr] at hb
    simp only [Option.some.injEq, Obj.cells.injEq] at hb
    exact ht hb.2.1)
theorem failA {k f : Nat} {l : List UInt8} {n : Nat} {zs : List At3} (h : Run stopA stepA k l n zs) (hs : stopA (l.drop n) = false) {x : Nat} {y : Int} (hx : failO (k + n) f (stepA (k + n) (l.drop n)) = some (x, y)) : failO k f (loop stopA stepA k l) = some (x, y) := by
  cases hq : stepA (k + n) (l.drop n) with
  | ok a m => rw [hq] at hx; cases hx
  | bad d c =>
    rw [hq] at hx
    rw [Run.bad h hs hq, ← hx]
    simp only [failO]
    rw [show k + (d + n) = k + n + d by omega]
  | un =>
    rw [hq] at hx
    rw [Run.un h hs hq]
    exact hx
theorem SB.drew {V W : World} {p : Nat} {s : ByteArray} {i f : Nat} {mv : Value} {q : Nat} {nme : List UInt8} {av : Value} {zs : List At3} (h : SB V W p s i f mv q nme av zs) : SB V W.drew p s i f mv q nme av zs := ⟨h.rd, h.mv.drew, h.blk, h.row.keep fun _ _ _ _ => rfl⟩
def atF (p q : Nat) (av : Value) (x : At3) : Nat → Value → Prop
  | 0, v | 6, v => v = .pointer (some ⟨q, 2, none⟩)
  | 1, v => v = av
  | 2, v => v = .pointer (some ⟨p, 0, none⟩)
  | 3, v => v = attV x
  | _, _ => True
/-- where reading the attribute fails nothing comes behind it -/
def noJ (V : World) (ls : Nat → Bool) (W : World) : Prop := ls 3 = false ∧ W = V
theorem noJ.pure {V W : World} {ls : Nat → Bool} (h : noJ V ls W) {i : Nat} (h3 : 3 ≠ i) : noJ V (updB ls i) W := by
  unfold noJ; rw [updB_other ls h3]; exact h
theorem noJ.not {V W : World} {ls : Nat → Bool} (h : noJ V ls W) (h3 : ls 3 = true) : False := by rw [h.1] at h3; cases h3

set_option maxHeartbeats 4000000 in
set_option maxRecDepth 100000 in
theorem startTag_f1 (w : World) (B p : Nat) (s : ByteArray) (k f : Nat) (ms : List Mk) (h : St w B p s k f ms) (hG : Glob w) (hp : 9 ≤ p) (hB : B ≤ w.heap.size) (hk : k ≤ s.size) (hs : s.size ≤ 65536) (hn : ms.length ≤ 65536) {x : Nat} {y : Int} (h1 : failO k f (nameO (tl s k)) = some (x, y)) : Calls Tryz.prog 58 #[.pointer (some ⟨p, 0, none⟩)] w (DcPost w B p s k f ms ((startO f k (tl s k)).map some)) := by
  obtain ⟨mv, zs, hz, hr0, hm0⟩ := h
  have hsz : Hid (p < w.heap.size ∧ 9 ≤ p ∧ s.size ≤ 65536 ∧ B ≤ w.heap.size ∧ zs.length ≤ 65536) := Lib.hid ⟨hr0.lt, hp, hs, hB, by rw [← hz, List.length_map] at hn; exact hn⟩
  have HN := Lib.hid (RdPost.is_fail (name_any w p s k f mv hr0 hk hs) h1)
  have HX : Hid (failO k f ((startO f k (tl s k)).map some) = some (x, y)) := Lib.hid (by rw [failO_map]; exact failO_seq1 h1)
  clear hr0 hm0 hz hG hs hp hB hn h1
  go_enter Tryz.func58, Tryz.ntmps58
  go_wp2_with (go_at_call 72; refine HN.out.mono ?_; rintro e w2 ⟨rfl, hm⟩; have HM2 := Lib.hid hm; clear hm)
  have hq := hsz.out
  exact ⟨rfl, DcPost.fail HX.out (HM2.out.toQ)⟩
set_option maxHeartbeats 4000000 in
set_option maxRecDepth 100000 in
theorem startTag_go (w : World) (B p : Nat) (s : ByteArray) (k f : Nat) (ms : List Mk) (h : St w B p s k f ms) (hG : Glob w) (hp : 9 ≤ p) (hB : B ≤ w.heap.size) (hk : k ≤ s.size) (hs : s.size ≤ 65536) (hnm : ms.length ≤ 65536) {nme : List UInt8} {n : Nat} (h1 : nameO (tl s k) = .ok nme n) : Calls Tryz.prog 58 #[.pointer (some ⟨p, 0, none⟩)] w (DcPost w B p s k f ms ((startO f k (tl s k)).map some)) := by
  obtain ⟨mv, zs, hz, hr0, hm0⟩ := h
  have hsz : Hid (p < w.heap.size ∧ 9 ≤ p ∧ s.size ≤ 65536 ∧ B ≤ w.heap.size ∧ zs.length ≤ 65536) := Lib.hid ⟨hr0.lt, hp, hs, hB, by rw [← hz, List.length_map] at hnm; exact hnm⟩
  have hnl := nameO_le h1
  rw [tl_length] at hnl
  have HN := Lib.hid (RdPost.is_ok (name_any w p s k f mv hr0 hk hs) h1)
  have hk1 : k + n ≤ s.size := by omega
  have HO : Hid (startO f k (tl s k) = ((loop stopA stepA (k + n) (tl s (k + n))).seq (tl s (k + n)) fun zs _ l2 => (tailO l2).map fun e => (⟨1, nme, zs, e, [], f⟩ : Mk)).on n) := Lib.hid (by unfold startO; rw [seq_is h1, tl_drop])
  have HR := Lib.hid hr0
  have HM := Lib.hid hm0
  have HZ := Lib.hid hz
  have HG := Lib.hid hG
  clear hr0 hm0 hz hG hs hp hB hnm h1 hnl
  go_enter Tryz.func58, Tryz.ntmps58
  go_wp2_with (go_at_call 72; refine HN.out.mono ?_; rintro e w1 ⟨rfl, hr, hm⟩; have HR1 := Lib.hid hr; have HM1 := Lib.hid hm; clear hr hm)
  have HB0 : Hid (w.heap.size ≤ w1.heap.size ∧ p < w1.heap.size) := Lib.hid ⟨HM1.out.size, HR1.out.lt⟩
  have hSB : SB w (w1.alloc (.cells #[.int .i64 1, .string ⟨nme.toArray⟩, .slice none 0 0, .bool false, .string ⟨#[]⟩, .int .i64 0] 36)) p s (k + n) f mv w1.heap.size nme (.slice none 0 0) [] :=
    ⟨HR1.out.below (B := w1.heap.size) ((Below.refl _ _).alloc (Nat.le_refl _) _) HR1.out.lt, HM1.out.below (B := w1.heap.size) ((Below.refl _ _).alloc (Nat.le_refl _) _) HM1.out.size, heap_at _ _ _ rfl, World.ownsRow_nil _ _ _ _⟩
  have HSB := Lib.hid hSB
  clear hSB HN HR1 HM1
  go_loopg [3, 4, 8, 9, 10, 11, 12, 13, 14, 15, 16, 17, 18, 19, 20, 21, 22, 23, 24, 25, 26, 27, 28] s.size (fun kx _ _ _ _ _ _ _ _ _ _ _ _ _ _ _ _ _ _ _ _ _ _ _ wr => ∃ (j : Nat) (zs : List At3) (av : Value), k + n + j ≤ s.size ∧ s.size - (k + n + j) ≤ kx ∧ Hid (Run stopA stepA (k + n) (tl s (k + n)) j zs ∧ zs.length ≤ j) ∧ Aside (SB w wr p s (k + n + j) f mv w1.heap.size nme av zs))
  case atStart => exact ⟨0, [], _, hk1, by omega, Lib.hid ⟨Run.start _ _, by simp⟩, HSB.out⟩
  case round =>
    clear HSB
    obtain ⟨j, zs2, av, hj, hkx, HRun, hSB⟩ := hrel
    have HS := Lib.hid (show SB w wr p s (k + n + j) f mv w1.heap.size nme av zs2 from hSB)
    clear hSB
    have HTL : Hid ((tl s (k + n)).drop j = tl s (k + n + j)) := Lib.hid (by rw [tl_drop])
    have hw1 := wh_le (tl s (k + n + j))
    rw [tl_length] at hw1
    have hk2 : k + n + j + wh (tl s (k + n + j)) ≤ s.size := by omega
    have HBL := Lib.hid (fun W (hW : Rd W p s (k + n + j) f mv) => blanks_any W p s (k + n + j) f mv hW hj hsz.out.2.2.1)
    have HH := Lib.hid (fun W (hW : Rd W p s (k + n + j + wh (tl s (k + n + j))) f mv) => here_l W p s (k + n + j + wh (tl s (k + n + j))) f mv hW hk2 hsz.out.2.2.1)
    have HSt : Hid (∀ c, hd (tl s (k + n + j + wh (tl s (k + n + j)))) = c → stopA ((tl s (k + n)).drop j) = (c == 62 || c == 47)) := Lib.hid (fun c hc => by rw [HTL.out]; unfold stopA; rw [tl_drop, hc])
    by_cases h62 : hd (tl s (k + n + j + wh (tl s (k + n + j)))) = 62
    · have HT : Hid ((startO f k (tl s k)).map some = .ok (some ⟨1, nme, zs2, false, [], f⟩) (1 + wh (tl s (k + n + j)) + j + n)) := Lib.hid (by
        rw [HO.out, seq_is (Run.done HRun.out.1 (by rw [HSt.out 62 h62]; rfl)), HTL.out]
        unfold tailO spO
        rw [seq_is rfl, tl_drop, if_neg (by omega)]
        unfold mustO
        rw [if_pos h62]; rfl)
      have HK : Hid (k + (1 + wh (tl s (k + n + j)) + j + n) = k + n + j + wh (tl s (k + n + j)) + 1) := Lib.hid (by omega)
      have HMU := Lib.hid (fun W (hW : Rd W p s (k + n + j + wh (tl s (k + n + j))) f mv) => must_ok W p s (k + n + j + wh (tl s (k + n + j))) f mv 62 hW hk2 hsz.out.2.2.1 h62 (by decide))
      rw [h62] at HH
      clear h62 hw1
      go_wp2_with (first
        | (go_at_call 73; ((with_reducible refine (HBL.out _ HS.out.rd).mono ?_); rintro e w2 ⟨rfl, hr, hm⟩; have HR2 := Lib.hid hr; have HM2 := Lib.hid (Mv.trans HS.out.mv hm); have HK2 := Lib.hid (MkB.mv HS.out.blk hm (by have := HB0.out; omega)); have HA2 := Lib.hid (AR.mv HS.out.row hm HS.out.rd); clear hr hm))
        | (go_at_call 75; ((with_reducible refine (HH.out _ HR2.out).mono ?_); rintro e w3 ⟨rfl, hr, hm⟩; have HR3 := Lib.hid hr; have HM3 := Lib.hid (Mv.trans HM2.out hm); have HK3 := Lib.hid (MkB.mv HK2.out hm (by have := HB0.out; omega)); have HA3 := Lib.hid (AR.mv HA2.out hm HR2.out); clear hr hm))
        | (go_at_call 75; ((with_reducible refine (HH.out _ HR3.out).mono ?_); rintro e w4 ⟨rfl, hr, hm⟩; have HR4 := Lib.hid hr; have HM4 := Lib.hid (Mv.trans HM3.out hm); have HK4 := Lib.hid (MkB.mv HK3.out hm (by have := HB0.out; omega)); have HA4 := Lib.hid (AR.mv HA3.out hm HR3.out); clear hr hm; have bz := HK4.out.fz 3; have b3 : w4.cell? ⟨w1.heap.size, 3, none⟩ = some (.bool false) := HK4.out.cell 3; have c1 := HR4.out.c1; have z1 := HR4.out.z 1))
        | (go_at_call 74; ((refine (HMU.out _ HR4.out).mono ?_); rintro e w5 ⟨rfl, hr, hm⟩; have HR5 := Lib.hid hr; have HM5 := Lib.hid (Mv.trans HM4.out hm); have HK5 := Lib.hid (MkB.mv HK4.out hm (by have := HB0.out; omega)); have HA5 := Lib.hid (AR.mv HA4.out hm HR4.out); clear hr hm; have d0 : w5.cell? ⟨w1.heap.size, 0, none⟩ = some (.int .i64 1) := HK5.out.cell 0; have d1 : w5.cell? ⟨w1.heap.size, 1, none⟩ = some (.string ⟨nme.toArray⟩) := HK5.out.cell 1; have d2 : w5.cell? ⟨w1.heap.size, 2, none⟩ = some av := HK5.out.cell 2; have d3 : w5.cell? ⟨w1.heap.size, 3, none⟩ = some (.bool false) := HK5.out.cell 3; have d4 : w5.cell? ⟨w1.heap.size, 4, none⟩ = some (.string ⟨#[]⟩) := HK5.out.cell 4; have d5 : w5.cell? ⟨w1.heap.size, 5, none⟩ = some (.int .i64 0) := HK5.out.cell 5))
        | (go_at_call 71; refine (tell_any _ p s _ f mv B zs HR5.out (HM.out.mv HM5.out HR.out) (Nat.le_trans hsz.out.2.2.2.1 HM5.out.size) hsz.out.2.2.2.2 ⟨1, nme, zs2, false, [], f⟩ av 0 (own_mono HA5.out (by have := HB0.out; have := hsz.out; omega)) (HM.out.new_apart HA5.out (by have := HB0.out; omega)) rfl).mono ?_; rintro e w6 ⟨rfl, mv9, hr, hm, hb⟩; have HR9 := Lib.hid hr; have HM9 := Lib.hid hm; have HB9 := Lib.hid hb; clear hr hm hb))
      go_end0
      have hq := hsz.out
      rw [HT.out]
      exact ⟨rfl, ⟨mv9, _, by rw [List.map_append, HZ.out]; rfl, by rw [HK.out]; exact HR9.out, HM9.out⟩, (HM5.out.toQ).trans HB9.out⟩
    by_cases h47 : hd (tl s (k + n + j + wh (tl s (k + n + j)))) = 47
    · have hk3 : k + n + j + wh (tl s (k + n + j)) + 1 ≤ s.size := by have := hd_ne (l := tl s (k + n + j + wh (tl s (k + n + j)))) (by omega); rw [tl_length] at this; omega
      by_cases h3 : hd (tl s (k + n + j + wh (tl s (k + n + j)) + 1)) = 62
      · have HT : Hid ((startO f k (tl s k)).map some = .ok (some ⟨1, nme, zs2, true, [], f⟩) (1 + 1 + wh (tl s (k + n + j)) + j + n)) := Lib.hid (by
          rw [HO.out, seq_is (Run.done HRun.out.1 (by rw [HSt.out 47 h47]; rfl)), HTL.out]
          unfold tailO spO
          rw [seq_is rfl, tl_drop, if_pos h47, seq_is rfl, tl_drop]
          unfold mustO
          rw [if_pos h3]; rfl)
        have HK : Hid (k + (1 + 1 + wh (tl s (k + n + j)) + j + n) = k + n + j + wh (tl s (k + n + j)) + 1 + 1) := Lib.hid (by omega)
        have HMU := Lib.hid (fun W (hW : Rd W p s (k + n + j + wh (tl s (k + n + j)) + 1) f mv) => must_ok W p s (k + n + j + wh (tl s (k + n + j)) + 1) f mv 62 hW hk3 hsz.out.2.2.1 h3 (by decide))
        rw [h47] at HH
        clear h62 h47 h3 hw1
        go_wp2_with (first
          | (go_at_call 73; ((with_reducible refine (HBL.out _ HS.out.rd).mono ?_); rintro e w2 ⟨rfl, hr, hm⟩; have HR2 := Lib.hid hr; have HM2 := Lib.hid (Mv.trans HS.out.mv hm); have HK2 := Lib.hid (MkB.mv HS.out.blk hm (by have := HB0.out; omega)); have HA2 := Lib.hid (AR.mv HS.out.row hm HS.out.rd); clear hr hm))
          | (go_at_call 75; ((with_reducible refine (HH.out _ HR2.out).mono ?_); rintro e w3 ⟨rfl, hr, hm⟩; have HR3 := Lib.hid hr; have HM3 := Lib.hid (Mv.trans HM2.out hm); have HK3 := Lib.hid (MkB.mv HK2.out hm (by have := HB0.out; omega)); have HA3 := Lib.hid (AR.mv HA2.out hm HR2.out); clear hr hm))
          | (go_at_call 75; ((with_reducible refine (HH.out _ HR3.out).mono ?_); rintro e w4 ⟨rfl, hr, hm⟩; have HR4 := Lib.hid hr; have HM4 := Lib.hid (Mv.trans HM3.out hm); have HK4 := Lib.hid (MkB.mv HK3.out hm (by have := HB0.out; omega)); have HA4 := Lib.hid (AR.mv HA3.out hm HR3.out); clear hr hm; have bz := HK4.out.fz 3; have b3 : w4.cell? ⟨w1.heap.size, 3, none⟩ = some (.bool false) := HK4.out.cell 3; have c1 := HR4.out.c1; have z1 := HR4.out.z 1))
          | (go_at_call 74; ((refine (HMU.out _ ((HR4.out.at1 (x := wrap64 (((k + n + j + wh (tl s (k + n + j)) : Nat) : Int) + 1)) (j := k + n + j + wh (tl s (k + n + j)) + 1) (by have := hsz.out; exact Go.IntWalk.wrap64_in _ (by omega))).far (q := w1.heap.size) (by have := HB0.out; omega) 3 (.bool true))).mono ?_); rintro e w5 ⟨rfl, hr, hm⟩; have HR5 := Lib.hid hr; have HM5 := Lib.hid (Mv.trans ((HM4.out.set 1 (.int .i64 (wrap64 (((k + n + j + wh (tl s (k + n + j)) : Nat) : Int) + 1)))).far HB0.out.1 3 (.bool true)) hm); have HK5 := Lib.hid (MkB.mv ((HK4.out.other (by have := HB0.out; omega) 1 (.int .i64 (wrap64 (((k + n + j + wh (tl s (k + n + j)) : Nat) : Int) + 1)))).set3 true) hm (by have := HB0.out; omega)); have HA5 := Lib.hid (AR.mv ((HA4.out.setAt HR4.out.heap (by decide) 1 (.int .i64 (wrap64 (((k + n + j + wh (tl s (k + n + j)) : Nat) : Int) + 1)))).setAt (HK4.out.other (by have := HB0.out; omega) 1 (.int .i64 (wrap64 (((k + n + j + wh (tl s (k + n + j)) : Nat) : Int) + 1)))).heap (by decide) 3 (.bool true)) hm ((HR4.out.at1 (x := wrap64 (((k + n + j + wh (tl s (k + n + j)) : Nat) : Int) + 1)) (j := k + n + j + wh (tl s (k + n + j)) + 1) (by have := hsz.out; exact Go.IntWalk.wrap64_in _ (by omega))).far (q := w1.heap.size) (by have := HB0.out; omega) 3 (.bool true))); clear hr hm; have d0 : w5.cell? ⟨w1.heap.size, 0, none⟩ = some (.int .i64 1) := HK5.out.cell 0; have d1 : w5.cell? ⟨w1.heap.size, 1, none⟩ = some (.string ⟨nme.toArray⟩) := HK5.out.cell 1; have d2 : w5.cell? ⟨w1.heap.size, 2, none⟩ = some av := HK5.out.cell 2; have d3 : w5.cell? ⟨w1.heap.size, 3, none⟩ = some (.bool true) := HK5.out.cell 3; have d4 : w5.cell? ⟨w1.heap.size, 4, none⟩ = some (.string ⟨#[]⟩) := HK5.out.cell 4; have d5 : w5.cell? ⟨w1.heap.size, 5, none⟩ = some (.int .i64 0) := HK5.out.cell 5))
          | (go_at_call 71; refine (tell_any _ p s _ f mv B zs HR5.out (HM.out.mv HM5.out HR.out) (Nat.le_trans hsz.out.2.2.2.1 HM5.out.size) hsz.out.2.2.2.2 ⟨1, nme, zs2, true, [], f⟩ av 0 (own_mono HA5.out (by have := HB0.out; have := hsz.out; omega)) (HM.out.new_apart HA5.out (by have := HB0.out; omega)) rfl).mono ?_; rintro e w6 ⟨rfl, mv9, hr, hm, hb⟩; have HR9 := Lib.hid hr; have HM9 := Lib.hid hm; have HB9 := Lib.hid hb; clear hr hm hb))
        go_end0
        have hq := hsz.out
        rw [HT.out]
        exact ⟨rfl, ⟨mv9, _, by rw [List.map_append, HZ.out]; rfl, by rw [HK.out]; exact HR9.out, HM9.out⟩, (HM5.out.toQ).trans HB9.out⟩
      · obtain ⟨x, y, hxy⟩ := wrong_some (l := tl s (k + n + j + wh (tl s (k + n + j)) + 1)) (k + n + j + wh (tl s (k + n + j)) + 1) f
        have HX : Hid (failO k f ((startO f k (tl s k)).map some) = some (x, y)) := Lib.hid (by
          rw [failO_map, HO.out, failO_on, seq_is (Run.done HRun.out.1 (by rw [HSt.out 47 h47]; rfl)), HTL.out, failO_on, failO_map]
          unfold tailO spO
          rw [seq_is rfl, tl_drop, if_pos h47, failO_on, seq_is rfl, tl_drop, failO_on, failO_map]
          unfold mustO
          rw [if_neg h3]; exact hxy)
        have HMU := Lib.hid (fun W (hW : Rd W p s (k + n + j + wh (tl s (k + n + j)) + 1) f mv) => must_bad W p s (k + n + j + wh (tl s (k + n + j)) + 1) f mv 62 hW hk3 hsz.out.2.2.1 h3 (Lib.hid hxy))
        rw [h47] at HH
        clear h62 h47 h3 hw1 hxy
        go_wp2_with (first
          | (go_at_call 73; ((with_reducible refine (HBL.out _ HS.out.rd).mono ?_); rintro e w2 ⟨rfl, hr, hm⟩; have HR2 := Lib.hid hr; have HM2 := Lib.hid (Mv.trans HS.out.mv hm); have HK2 := Lib.hid (MkB.mv HS.out.blk hm (by have := HB0.out; omega)); have HA2 := Lib.hid (AR.mv HS.out.row hm HS.out.rd); clear hr hm))
          | (go_at_call 75; ((with_reducible refine (HH.out _ HR2.out).mono ?_); rintro e w3 ⟨rfl, hr, hm⟩; have HR3 := Lib.hid hr; have HM3 := Lib.hid (Mv.trans HM2.out hm); have HK3 := Lib.hid (MkB.mv HK2.out hm (by have := HB0.out; omega)); have HA3 := Lib.hid (AR.mv HA2.out hm HR2.out); clear hr hm))
          | (go_at_call 75; ((with_reducible refine (HH.out _ HR3.out).mono ?_); rintro e w4 ⟨rfl, hr, hm⟩; have HR4 := Lib.hid hr; have HM4 := Lib.hid (Mv.trans HM3.out hm); have HK4 := Lib.hid (MkB.mv HK3.out hm (by have := HB0.out; omega)); have HA4 := Lib.hid (AR.mv HA3.out hm HR3.out); clear hr hm; have bz := HK4.out.fz 3; have b3 : w4.cell? ⟨w1.heap.size, 3, none⟩ = some (.bool false) := HK4.out.cell 3; have c1 := HR4.out.c1; have z1 := HR4.out.z 1))
          | (go_at_call 74; ((refine (HMU.out _ ((HR4.out.at1 (x := wrap64 (((k + n + j + wh (tl s (k + n + j)) : Nat) : Int) + 1)) (j := k + n + j + wh (tl s (k + n + j)) + 1) (by have := hsz.out; exact Go.IntWalk.wrap64_in _ (by omega))).far (q := w1.heap.size) (by have := HB0.out; omega) 3 (.bool true))).mono ?_); rintro e w5 ⟨rfl, hm⟩; have HM5 := Lib.hid (Mv.trans ((HM4.out.set 1 (.int .i64 (wrap64 (((k + n + j + wh (tl s (k + n + j)) : Nat) : Int) + 1)))).far HB0.out.1 3 (.bool true)) hm); clear hm)))
        have hq := hsz.out
        exact ⟨rfl, DcPost.fail HX.out (HM5.out.toQ)⟩
    have hs0 : stopA ((tl s (k + n)).drop j) = false := by rw [HSt.out _ rfl]; simp [h62, h47]
    have n62 : ((hd (tl s (k + n + j + wh (tl s (k + n + j)))) : Int) == 62) = false := beq_eq_false_iff_ne.2 (by omega)
    have n47 : ((hd (tl s (k + n + j + wh (tl s (k + n + j)))) : Int) == 47) = false := beq_eq_false_iff_ne.2 (by omega)
    clear HSt
    by_cases h0 : wh (tl s (k + n + j)) = 0
    · obtain ⟨x, y, hxy⟩ := wrong_some (l := tl s (k + n + j)) (k + n + j) f
      have HX : Hid (failO k f ((startO f k (tl s k)).map some) = some (x, y)) := Lib.hid (by
        rw [failO_map, HO.out, failO_on]
        exact failO_seq1 (failA HRun.out.1 hs0 (by rw [HTL.out]; unfold stepA; rw [if_pos h0, failO_wrong (β := Unit)]; exact hxy)))
      have HW := Lib.hid (fun W (hW : Rd W p s (k + n + j) f mv) => wrong_l W p s (k + n + j) f mv hW hj hsz.out.2.2.1 (Lib.hid hxy))
      rw [h0] at HBL HH hk2 n62 n47
      rw [Nat.add_zero] at HBL HH n62 n47
      clear h0 h62 h47 hw1 hxy hs0 hk2
      generalize hd (tl s (k + n + j)) = c at *
      go_wp2_with (first
        | (go_at_call 73; ((with_reducible refine (HBL.out _ HS.out.rd).mono ?_); rintro e w2 ⟨rfl, hr, hm⟩; have HR2 := Lib.hid hr; have HM2 := Lib.hid (Mv.trans HS.out.mv hm); have HK2 := Lib.hid (MkB.mv HS.out.blk hm (by have := HB0.out; omega)); have HA2 := Lib.hid (AR.mv HS.out.row hm HS.out.rd); clear hr hm))
        | (go_at_call 75; ((with_reducible refine (HH.out _ HR2.out).mono ?_); rintro e w3 ⟨rfl, hr, hm⟩; have HR3 := Lib.hid hr; have HM3 := Lib.hid (Mv.trans HM2.out hm); have HK3 := Lib.hid (MkB.mv HK2.out hm (by have := HB0.out; omega)); have HA3 := Lib.hid (AR.mv HA2.out hm HR2.out); clear hr hm))
        | (go_at_call 76; ((refine (HW.out _ HR3.out).mono ?_); rintro e w5 ⟨rfl, hm⟩; have HM5 := Lib.hid (Mv.trans HM3.out hm); clear hm)))
      have hq := hsz.out
      exact ⟨rfl, DcPost.fail HX.out (HM5.out.toQ)⟩
    have HWp : Hid (decide (0 < wh (tl s (k + n + j))) = true) := Lib.hid (decide_eq_true (by omega))
    rw [HWp.out] at HBL
    have HAg := Lib.hid (fun W (hW : Rd W p s (k + n + j + wh (tl s (k + n + j))) f mv) (hgW : Glob W) => attribute_any W p s (k + n + j + wh (tl s (k + n + j))) f mv hW hgW hsz.out.2.1 hk2 hsz.out.2.2.1)
    have hstA : stepA (k + n + j) (tl s (k + n + j)) = (attrO (k + n + j + wh (tl s (k + n + j))) (tl s (k + n + j + wh (tl s (k + n + j))))).on (wh (tl s (k + n + j))) := by unfold stepA; rw [if_neg h0, tl_drop]
    have hAle : ∀ a m, attrO (k + n + j + wh (tl s (k + n + j))) (tl s (k + n + j + wh (tl s (k + n + j)))) = .ok a m → 1 ≤ m ∧ m ≤ s.size - (k + n + j + wh (tl s (k + n + j))) := fun a m hm => by
      have := attrO_le hm
      rw [tl_length] at this
      exact this
    clear h0 h62 h47 HWp
    generalize hd (tl s (k + n + j + wh (tl s (k + n + j)))) = c at *
    cases hAO : attrO (k + n + j + wh (tl s (k + n + j))) (tl s (k + n + j + wh (tl s (k + n + j)))) with
    | ok x m =>
      have HA := Lib.hid (fun W (hW : Rd W p s (k + n + j + wh (tl s (k + n + j))) f mv) (hgW : Glob W) => RdPost.is_ok (HAg.out W hW hgW) hAO)
      obtain ⟨hm1, hm2⟩ := hAle x m hAO
      rw [hAO] at hstA
      have HN2 : Hid (Run stopA stepA (k + n) (tl s (k + n)) (j + (m + wh (tl s (k + n + j)))) (zs2 ++ [x]) ∧ (zs2 ++ [x]).length ≤ j + (m + wh (tl s (k + n + j)))) := Lib.hid ⟨HRun.out.1.on goodA hs0 (by rw [HTL.out]; exact hstA), by have := HRun.out.2; simp; omega⟩
      have HJ2 : Hid (k + n + (j + (m + wh (tl s (k + n + j)))) = k + n + j + wh (tl s (k + n + j)) + m) := Lib.hid (by omega)
      have HZL : Hid (zs2.length ≤ 65536) := Lib.hid (by have := HRun.out.2; have := hsz.out; omega)
      clear hs0 hstA hAO hAle HAg hw1
      go_wp2_with (first
        | (go_at_call 73; ((with_reducible refine (HBL.out _ HS.out.rd).mono ?_); rintro e w2 ⟨rfl, hr, hm⟩; have HR2 := Lib.hid hr; have HM2 := Lib.hid (Mv.trans HS.out.mv hm); have HK2 := Lib.hid (MkB.mv HS.out.blk hm (by have := HB0.out; omega)); have HA2 := Lib.hid (AR.mv HS.out.row hm HS.out.rd); clear hr hm))
        | (go_at_call 75; ((with_reducible refine (HH.out _ HR2.out).mono ?_); rintro e w3 ⟨rfl, hr, hm⟩; have HR3 := Lib.hid hr; have HM3 := Lib.hid (Mv.trans HM2.out hm); have HK3 := Lib.hid (MkB.mv HK2.out hm (by have := HB0.out; omega)); have HA3 := Lib.hid (AR.mv HA2.out hm HR2.out); clear hr hm)))
      have HSV : Hid (SB w w3.drew p s (k + n + j + wh (tl s (k + n + j))) f mv w1.heap.size nme av zs2) := Lib.hid (SB.drew ⟨HR3.out, HM3.out, HK3.out, HA3.out⟩)
      clear HR3 HM3 HK3 HA3 HR2 HM2 HK2 HA2
      obtain ⟨V, hV⟩ : ∃ V, V = w3.drew := ⟨_, rfl⟩
      rw [← hV] at HSV
      have HV := Lib.hid hV
      clear hV
      refine wp_region_stepsA (atF p w1.heap.size av x) (atJ w V p s (k + n + j + wh (tl s (k + n + j)) + m) f mv w1.heap.size nme av zs2 x) (by kernel_rfl) (by kernel_rfl) HV.out.symm ?_ ?_
      · refine ⟨?_, ?_, ?_, ?_, ?_, ?_, ?_, ?_, trivial⟩
        · intro a W ls hJ hi hcl hd hoff hf
          left
          refine ⟨rfl, ?_⟩
          have e0 : a.tmps.getD 2 undef = .pointer (some ⟨w1.heap.size, 0, none⟩) := hoff.slot 2 (no_dst (by kernel_rfl))
          go_simp
          exact ⟨_, rfl, rfl, hJ.pure (i := 0) (d := some 22) (by decide) (by decide) (by decide) (by decide) (by decide) (by decide) _⟩
        · intro a W ls hJ hi hcl hd hoff hf
          left
          refine ⟨rfl, ?_⟩
          have e0 : a.tmps.getD 22 undef = .pointer (some ⟨w1.heap.size, 2, none⟩) := hf 0 _ (hd 0 rfl) rfl
          have h5 : ls 5 = false := hcl.no hi rfl rfl
          have h7 : ls 7 = false := hcl.no h5 rfl rfl
          have hb := hJ.blk HSV.out.blk h5 h7
          have c2 : W.cell? ⟨w1.heap.size, 2, none⟩ = some av := hb.cell 2
          clear hb
          go_simp
          exact ⟨_, rfl, rfl, hJ.pure (i := 1) (d := some 23) (by decide) (by decide) (by decide) (by decide) (by decide) (by decide) _⟩
        · intro a W ls hJ hi hcl hd hoff hf
          left
          refine ⟨rfl, ?_⟩
          have e0 : a.tmps.getD 0 undef = .pointer (some ⟨p, 0, none⟩) := hoff.slot 0 (no_dst (by kernel_rfl))
          go_simp
          exact ⟨_, rfl, rfl, hJ.pure (i := 2) (d := some 24) (by decide) (by decide) (by decide) (by decide) (by decide) (by decide) _⟩
        · intro a W ls hJ hi hcl hd hoff hf
          left
          refine ⟨rfl, ?_⟩
          have e0 : a.tmps.getD 24 undef = .pointer (some ⟨p, 0, none⟩) := hf 2 _ (hd 2 rfl) rfl
          have h4 : ls 4 = false := hcl.no hi rfl rfl
          have h5 : ls 5 = false := hcl.no h4 rfl rfl
          have h7 : ls 7 = false := hcl.no h5 rfl rfl
          obtain rfl := hJ.at0 hi h4 h5 h7
          go_simp
          refine (HA.out _ HSV.out.rd (HG.out.mv HSV.out.mv hsz.out.2.1)).mono ?_
          rintro en W2 ⟨rfl, hr, hm⟩
          exact ⟨_, rfl, rfl, atJ.to3 h4 h5 h7 ⟨hr, HSV.out.mv.trans hm, HSV.out.blk.mv hm (by have := HB0.out; omega), HSV.out.row.mv hm HSV.out.rd⟩ _⟩
        · intro a W ls hJ hi hcl hd hoff hf
          left
          refine ⟨rfl, ?_⟩
          have e0 : a.tmps.getD 25 undef = .agg #[.string ⟨x.name.toArray⟩, .string ⟨x.value.toArray⟩, .int .i64 (x.at_ : Int)] := hf 3 _ (hd 3 rfl) rfl
          have e1 : a.tmps[25]?.getD undef = .agg #[.string ⟨x.name.toArray⟩, .string ⟨x.value.toArray⟩, .int .i64 (x.at_ : Int)] := by rw [← e0]; simp [Array.getD_eq_getD_getElem?]
          have h5 : ls 5 = false := hcl.no hi rfl rfl
          have h7 : ls 7 = false := hcl.no h5 rfl rfl
          have HSB4 := Lib.hid (hJ.at3 (hd 3 rfl) hi h5 h7)
          go_simp
          exact ⟨_, rfl, trivial, atJ.to4 h5 h7 (by rw [hoff.size]; show 26 < 45; decide) (heap_at _ _ _ rfl) (HSB4.out.alloc _)⟩
        · intro a W ls hJ hi hcl hd hoff hf
          left
          refine ⟨rfl, ?_⟩
          have e0 : a.eval (.tmp 23) = av := hf 1 _ (hd 1 rfl) rfl
          have h7 : ls 7 = false := hcl.no hi rfl rfl
          obtain ⟨⟨b, eb, hb⟩, hS4⟩ := hJ.at4 (hd 4 rfl) hi h7
          have e1 : a.eval (.tmp 26) = slV b 1 1 := eb
          obtain ⟨Q, cap, W2, hrun, k1, k2, k3, k4⟩ := hS4.append hb HZL.out (by have := HB0.out; omega)
          refine wp_value (v := slV Q (zs2.length + 1) cap) (w' := W2) ?_ ⟨_, rfl, trivial, atJ.to5 h7 (by rw [hoff.size]; show 27 < 45; decide) k1 k2 k3 k4⟩
          simp only [execOp, resolve, invoke, builtin, Sem.run_bind, Sem.run_pure, Result.andThen_ok, List.map_toArray, List.map_cons, List.map_nil, e0, e1, hrun]
        · intro a W ls hJ hi hcl hd hoff hf
          left
          refine ⟨rfl, ?_⟩
          have e0 : a.tmps.getD 2 undef = .pointer (some ⟨w1.heap.size, 0, none⟩) := hoff.slot 2 (no_dst (by kernel_rfl))
          go_simp
          exact ⟨_, rfl, rfl, hJ.pure (i := 6) (d := some 28) (by decide) (by decide) (by decide) (by decide) (by decide) (by decide) _⟩
        · intro a W ls hJ hi hcl hd hoff hf
          left
          refine ⟨rfl, ?_⟩
          have e0 : a.tmps.getD 28 undef = .pointer (some ⟨w1.heap.size, 2, none⟩) := hf 6 _ (hd 6 rfl) rfl
          obtain ⟨Q, cap, e27, k1, k2, k3, k4⟩ := hJ.at5 (hd 5 rfl) hi
          unfold slV at e27
          have c2 : W.cell? ⟨w1.heap.size, 2, none⟩ = some av := k3.cell 2
          have z2 := k3.fz 2
          have K1 := Lib.hid k1
          have K2 := Lib.hid k2
          have K3 := Lib.hid k3
          have K4 := Lib.hid k4
          clear k1 k2 k3 k4
          go_simp
          exact ⟨undef, rfl, trivial, atJ.to7 (Q := Q) (cap := cap) ⟨K1.out.far (by have := HB0.out; omega) 2 _, K2.out.far HB0.out.1 2 _, K3.out.set2 _, K4.out.setAt K3.out.heap (by decide) 2 _⟩ _⟩
      · intro a W ls hl hJ hoff hf
        obtain ⟨Q, cap, hS⟩ := hJ.at7 (hl 7 (by decide))
        have HS9 := Lib.hid hS
        obtain ⟨ys, _, ha⟩ := off_form hoff (mask := [false, false, false, false, false, false, false, false, false, false, false, false, false, false, false, false, false, false, false, false, false, false, true, true, true, true, true, true, true, false, false, false, false, false, false, false, false, false, false, false, false, false, false, false, false]) (by kernel_rfl)
        clear hf hoff hl hJ hS
        subst ha
        simp only [fillFrom, Nat.zero_add, Nat.reduceAdd]
        go_wp2_with fail
        go_roundg (s.size - (k + n + (j + (m + wh (tl s (k + n + j))))))
        case measure => have := HJ2.out; omega
        case rel => exact ⟨j + (m + wh (tl s (k + n + j))), zs2 ++ [x], slV Q (zs2.length + 1) cap, by have := HJ2.out; omega, Nat.le_refl _, HN2, by rw [HJ2.out]; exact HS9.out⟩
    | bad d y =>
      have HA := Lib.hid (fun W (hW : Rd W p s (k + n + j + wh (tl s (k + n + j))) f mv) (hgW : Glob W) => RdPost.is_fail (x := (k + n + j + wh (tl s (k + n + j)) + d)) (c := y) (HAg.out W hW hgW) (by rw [hAO]; rfl))
      rw [hAO] at hstA
      have HX : Hid (failO k f ((startO f k (tl s k)).map some) = some ((k + n + j + wh (tl s (k + n + j)) + d), y)) := Lib.hid (by
        rw [failO_map, HO.out, failO_on]
        exact failO_seq1 (failA HRun.out.1 hs0 (by rw [HTL.out, hstA, failO_on]; rfl)))
      clear hs0 hstA hAO hAle HAg hw1
      go_wp2_with (first
        | (go_at_call 73; ((with_reducible refine (HBL.out _ HS.out.rd).mono ?_); rintro e w2 ⟨rfl, hr, hm⟩; have HR2 := Lib.hid hr; have HM2 := Lib.hid (Mv.trans HS.out.mv hm); have HK2 := Lib.hid (MkB.mv HS.out.blk hm (by have := HB0.out; omega)); have HA2 := Lib.hid (AR.mv HS.out.row hm HS.out.rd); clear hr hm))
        | (go_at_call 75; ((with_reducible refine (HH.out _ HR2.out).mono ?_); rintro e w3 ⟨rfl, hr, hm⟩; have HR3 := Lib.hid hr; have HM3 := Lib.hid (Mv.trans HM2.out hm); have HK3 := Lib.hid (MkB.mv HK2.out hm (by have := HB0.out; omega)); have HA3 := Lib.hid (AR.mv HA2.out hm HR2.out); clear hr hm)))
      have HSV : Hid (SB w w3.drew p s (k + n + j + wh (tl s (k + n + j))) f mv w1.heap.size nme av zs2) := Lib.hid (SB.drew ⟨HR3.out, HM3.out, HK3.out, HA3.out⟩)
      clear HR3 HM3 HK3 HA3 HR2 HM2 HK2 HA2
      obtain ⟨V, hV⟩ : ∃ V, V = w3.drew := ⟨_, rfl⟩
      rw [← hV] at HSV
      have HV := Lib.hid hV
      clear hV
      refine wp_region_stepsA (atF p w1.heap.size av ⟨[], [], 0⟩) (fun ls _ W => noJ V ls W) (by kernel_rfl) (by kernel_rfl) ⟨rfl, HV.out.symm⟩ ?_ ?_
      · refine ⟨?_, ?_, ?_, ?_, ?_, ?_, ?_, ?_, trivial⟩
        · intro a W ls hJ hi hcl hd hoff hf
          left
          refine ⟨rfl, ?_⟩
          have e0 : a.tmps.getD 2 undef = .pointer (some ⟨w1.heap.size, 0, none⟩) := hoff.slot 2 (no_dst (by kernel_rfl))
          go_simp
          exact ⟨_, rfl, rfl, hJ.pure (by decide)⟩
        · intro a W ls hJ hi hcl hd hoff hf
          left
          refine ⟨rfl, ?_⟩
          have e0 : a.tmps.getD 22 undef = .pointer (some ⟨w1.heap.size, 2, none⟩) := hf 0 _ (hd 0 rfl) rfl
          obtain rfl := hJ.2
          have c2 : W.cell? ⟨w1.heap.size, 2, none⟩ = some av := HSV.out.blk.cell 2
          go_simp
          exact ⟨_, rfl, rfl, hJ.pure (by decide)⟩
        · intro a W ls hJ hi hcl hd hoff hf
          left
          refine ⟨rfl, ?_⟩
          have e0 : a.tmps.getD 0 undef = .pointer (some ⟨p, 0, none⟩) := hoff.slot 0 (no_dst (by kernel_rfl))
          go_simp
          exact ⟨_, rfl, rfl, hJ.pure (by decide)⟩
        · intro a W ls hJ hi hcl hd hoff hf
          left
          refine ⟨rfl, ?_⟩
          have e0 : a.tmps.getD 24 undef = .pointer (some ⟨p, 0, none⟩) := hf 2 _ (hd 2 rfl) rfl
          obtain rfl := hJ.2
          go_simp
          refine (HA.out _ HSV.out.rd (HG.out.mv HSV.out.mv hsz.out.2.1)).mono ?_
          rintro en W2 ⟨rfl, hm⟩
          have hq := hsz.out
          exact ⟨hoff.defers, DcPost.fail HX.out ((HSV.out.mv.trans hm).toQ)⟩
        · intro a W ls hJ hi hcl hd hoff hf
          exact (hJ.not (hd 3 rfl)).elim
        · intro a W ls hJ hi hcl hd hoff hf
          exact (hJ.not (hcl 4 _ rfl (hd 4 rfl) 3 rfl)).elim
        · intro a W ls hJ hi hcl hd hoff hf
          left
          refine ⟨rfl, ?_⟩
          have e0 : a.tmps.getD 2 undef = .pointer (some ⟨w1.heap.size, 0, none⟩) := hoff.slot 2 (no_dst (by kernel_rfl))
          go_simp
          exact ⟨_, rfl, rfl, hJ.pure (by decide)⟩
        · intro a W ls hJ hi hcl hd hoff hf
          exact (hJ.not (hcl 4 _ rfl (hcl 5 _ rfl (hd 5 rfl) 4 rfl) 3 rfl)).elim
      · intro a W ls hl hJ hoff hf
        exact (hJ.not (hl 3 (by decide))).elim
    | un =>
      have HA := Lib.hid (fun W (hW : Rd W p s (k + n + j + wh (tl s (k + n + j))) f mv) (hgW : Glob W) => RdPost.is_fail (x := f) (c := 84) (HAg.out W hW hgW) (by rw [hAO]; rfl))
      rw [hAO] at hstA
      have HX : Hid (failO k f ((startO f k (tl s k)).map some) = some (f, 84)) := Lib.hid (by
        rw [failO_map, HO.out, failO_on]
        exact failO_seq1 (failA HRun.out.1 hs0 (by rw [HTL.out, hstA, failO_on]; rfl)))
      clear hs0 hstA hAO hAle HAg hw1
      go_wp2_with (first
        | (go_at_call 73; ((with_reducible refine (HBL.out _ HS.out.rd).mono ?_); rintro e w2 ⟨rfl, hr, hm⟩; have HR2 := Lib.hid hr; have HM2 := Lib.hid (Mv.trans HS.out.mv hm); have HK2 := Lib.hid (MkB.mv HS.out.blk hm (by have := HB0.out; omega)); have HA2 := Lib.hid (AR.mv HS.out.row hm HS.out.rd); clear hr hm))
        | (go_at_call 75; ((with_reducible refine (HH.out _ HR2.out).mono ?_); rintro e w3 ⟨rfl, hr, hm⟩; have HR3 := Lib.hid hr; have HM3 := Lib.hid (Mv.trans HM2.out hm); have HK3 := Lib.hid (MkB.mv HK2.out hm (by have := HB0.out; omega)); have HA3 := Lib.hid (AR.mv HA2.out hm HR2.out); clear hr hm)))
      have HSV : Hid (SB w w3.drew p s (k + n + j + wh (tl s (k + n + j))) f mv w1.heap.size nme av zs2) := Lib.hid (SB.drew ⟨HR3.out, HM3.out, HK3.out, HA3.out⟩)
      clear HR3 HM3 HK3 HA3 HR2 HM2 HK2 HA2
      obtain ⟨V, hV⟩ : ∃ V, V = w3.drew := ⟨_, rfl⟩
      rw [← hV] at HSV
      have HV := Lib.hid hV
      clear hV
      refine wp_region_stepsA (atF p w1.heap.size av ⟨[], [], 0⟩) (fun ls _ W => noJ V ls W) (by kernel_rfl) (by kernel_rfl) ⟨rfl, HV.out.symm⟩ ?_ ?_
      · refine ⟨?_, ?_, ?_, ?_, ?_, ?_, ?_, ?_, trivial⟩
        · intro a W ls hJ hi hcl hd hoff hf
          left
          refine ⟨rfl, ?_⟩
          have e0 : a.tmps.getD 2 undef = .pointer (some ⟨w1.heap.size, 0, none⟩) := hoff.slot 2 (no_dst (by kernel_rfl))
          go_simp
          exact ⟨_, rfl, rfl, hJ.pure (by decide)⟩
        · intro a W ls hJ hi hcl hd hoff hf
          left
          refine ⟨rfl, ?_⟩
          have e0 : a.tmps.getD 22 undef = .pointer (some ⟨w1.heap.size, 2, none⟩) := hf 0 _ (hd 0 rfl) rfl
          obtain rfl := hJ.2
          have c2 : W.cell? ⟨w1.heap.size, 2, none⟩ = some av := HSV.out.blk.cell 2
          go_simp
          exact ⟨_, rfl, rfl, hJ.pure (by decide)⟩
        · intro a W ls hJ hi hcl hd hoff hf
          left
          refine ⟨rfl, ?_⟩
          have e0 : a.tmps.getD 0 undef = .pointer (some ⟨p, 0, none⟩) := hoff.slot 0 (no_dst (by kernel_rfl))
          go_simp
          exact ⟨_, rfl, rfl, hJ.pure (by decide)⟩
        · intro a W ls hJ hi hcl hd hoff hf
          left
          refine ⟨rfl, ?_⟩
          have e0 : a.tmps.getD 24 undef = .pointer (some ⟨p, 0, none⟩) := hf 2 _ (hd 2 rfl) rfl
          obtain rfl := hJ.2
          go_simp
          refine (HA.out _ HSV.out.rd (HG.out.mv HSV.out.mv hsz.out.2.1)).mono ?_
          rintro en W2 ⟨rfl, hm⟩
          have hq := hsz.out
          exact ⟨hoff.defers, DcPost.fail HX.out ((HSV.out.mv.trans hm).toQ)⟩
        · intro a W ls hJ hi hcl hd hoff hf
          exact (hJ.not (hd 3 rfl)).elim
        · intro a W ls hJ hi hcl hd hoff hf
          exact (hJ.not (hcl 4 _ rfl (hd 4 rfl) 3 rfl)).elim
        · intro a W ls hJ hi hcl hd hoff hf
          left
          refine ⟨rfl, ?_⟩
          have e0 : a.tmps.getD 2 undef = .pointer (some ⟨w1.heap.size, 0, none⟩) := hoff.slot 2 (no_dst (by kernel_rfl))
          go_simp
          exact ⟨_, rfl, rfl, hJ.pure (by decide)⟩
        · intro a W ls hJ hi hcl hd hoff hf
          exact (hJ.not (hcl 4 _ rfl (hcl 5 _ rfl (hd 5 rfl) 4 rfl) 3 rfl)).elim
      · intro a W ls hl hJ hoff hf
        exact (hJ.not (hl 3 (by decide))).elim
theorem startTag_any (w : World) (B p : Nat) (s : ByteArray) (k f : Nat) (ms : List Mk) (h : St w B p s k f ms) (hG : Glob w) (hp : 9 ≤ p) (hB : B ≤ w.heap.size) (hk : k ≤ s.size) (hs : s.size ≤ 65536) (hn : ms.length ≤ 65536) : Calls Tryz.prog 58 #[.pointer (some ⟨p, 0, none⟩)] w (DcPost w B p s k f ms ((startO f k (tl s k)).map some)) := by
  cases h1 : nameO (tl s k) with
  | ok nme n => exact startTag_go w B p s k f ms h hG hp hB hk hs hn h1
  | bad d y => exact startTag_f1 w B p s k f ms h hG hp hB hk hs hn (by rw [h1]; rfl)
  | un => exact startTag_f1 w B p s k f ms h hG hp hB hk hs hn (by rw [h1]; rfl)
end Go.Proofs.YtbokcihlbpeagaaGreatDoor
