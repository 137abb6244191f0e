/-
  What is proved: the walk of the law DiskLasts: for all bytes and every script it returns true and turns nothing that was there. Conditions: the script's length, and the lengths of what it holds, are within the statement's bound.
-/
import Derived.Test.YtmajmohnnfjiaaaWhole
namespace Go.Proofs.Ytmajmohnnfjiaaa
open Go.RowKit

/-- one step of a script -/
structure OpR where
  kind : Int
  i : Int
  n : Int
  d : Part
def OpR.vals (o : OpR) : List Value := [.int .i64 o.kind, .int .i64 o.i, .int .i64 o.n, o.d.val]
structure OpR.Ok (w : World) (o : OpR) : Prop where
  hold : Hold w o.d.1 o.d.2.1 o.d.2.2.1 o.d.2.2.2
  size : o.d.2.1 ≤ 1048576
  i1 : -9223372036854775808 ≤ o.i
  i2 : o.i ≤ 9223372036854775807
  n1 : -9223372036854775808 ≤ o.n
  n2 : o.n ≤ 9223372036854775807
/-- '.slice B N C' reads as this script -/
def Ops (w : World) (B : Option Addr) (N : Nat) (os : List OpR) : Prop := os.length = N ∧ (∀ o ∈ os, o.Ok w) ∧ (0 < N → ∃ b off, B = some ⟨b, off, none⟩ ∧ ∀ j (hj : j < os.length), w.rangeAt b (off + j * 4) os[j].vals)
theorem OpR.Ok.below {w w' : World} {o : OpR} (h : o.Ok w) (hb : Below w.heap.size w w') : o.Ok w' := ⟨h.hold.below hb, h.size, h.i1, h.i2, h.n1, h.n2⟩
theorem range_later {w w' : World} {b o : Nat} {cs : List Value} (h : w.rangeAt b o cs) (hb : Below w.heap.size w w') : w'.rangeAt b o cs := fun j v hv => cell_later hb (h j v hv)
theorem Ops.at {w w' : World} {B : Option Addr} {N : Nat} {os : List OpR} (h : Ops w B N os) (hb : Below w.heap.size w w') {k : Nat} (hk : k < N) : ∃ (b off : Nat) (o : OpR), B = some ⟨b, off, none⟩ ∧ w'.rangeAt b (off + k * 4) o.vals ∧ o.Ok w' := by
  obtain ⟨b, off, e, hc⟩ := h.2.2 (by omega)
  have hl : k < os.length := by rw [h.1]; exact hk
  exact ⟨b, off, os[k], e, range_later (hc k hl) hb, (h.2.1 _ (List.getElem_mem hl)).below hb⟩
theorem Try.size30 : (Try.prog.info? 30).map (·.size) = some 4 := by kernel_rfl

/-- sector 7 is settled -/
structure Seven (s : D) (x : List UInt8) (k : Nat) : Prop where
  len : s.last.length = 8
  at7 : s.last[7]? = some x
  buf : ∀ p ∈ s.buf, p.1 ≠ 7
  bl : s.buf.length ≤ k
theorem settle_far (b : List (Nat × List UInt8)) (i : Nat) : ∀ last, (∀ p ∈ b, p.1 ≠ i) → (settle last b)[i]? = last[i]? := by
  induction b with
  | nil => intro _ _; rfl
  | cons p b ih =>
    intro last h
    show (settle (last.set p.1 p.2) b)[i]? = _
    rw [ih _ (fun q hq => h q (by simp [hq])), List.getElem?_set_ne (h p (by simp))]
theorem Seven.write {s : D} {x : List UInt8} {k : Nat} (h : Seven s x k) (i : Int) (hi : i ≠ 7) (l : List UInt8) : Seven (s.wSt i l) x (k + 1) := by
  unfold D.wSt
  split
  · exact ⟨h.len, h.at7, h.buf, by have := h.bl; omega⟩
  · split
    · exact ⟨h.len, h.at7, h.buf, by have := h.bl; omega⟩
    · rename_i h1 _
      have hr := refuse_zero (Decidable.not_not.1 h1)
      refine ⟨h.len, h.at7, ?_, by have := h.bl; simp; omega⟩
      intro p hp
      rcases List.mem_append.1 hp with hp | hp
      · exact h.buf p hp
      · simp at hp
        subst hp
        show i.toNat ≠ 7
        omega
theorem Seven.sett {s : D} {x : List UInt8} {k : Nat} (h : Seven s x k) (b : List (Nat × List UInt8)) (hb : ∀ p ∈ b, p ∈ s.buf) (n : Int) : Seven ⟨settle s.last b, [], n⟩ x k :=
  ⟨by simp only [settle_length]; exact h.len, by simp only; rw [settle_far b 7 _ (fun p hp => h.buf p (hb p hp))]; exact h.at7, by simp, by simp⟩
theorem Seven.more {s : D} {x : List UInt8} {k : Nat} (h : Seven s x k) : Seven s x (k + 1) := ⟨h.len, h.at7, h.buf, by have := h.bl; omega⟩
theorem Seven.flush {s : D} {x : List UInt8} {k : Nat} (h : Seven s x k) : Seven s.fSt x k := by
  unfold D.fSt
  split
  · exact h
  · exact h.sett _ (fun _ h => h) _
theorem Seven.arm {s : D} {x : List UInt8} {k : Nat} (h : Seven s x k) (n : Int) : Seven (s.aSt n) x k := by
  unfold D.aSt
  split
  · exact h
  · exact ⟨h.len, h.at7, h.buf, h.bl⟩
theorem Seven.crash {s : D} {x : List UInt8} {k : Nat} (h : Seven s x k) (a t : Int) : Seven (s.cSt a t) x k := by
  unfold D.cSt D.cLast
  split
  · exact h.sett _ (fun _ hp => List.mem_of_mem_take hp) _
  · rename_i p hp
    have hs := h.sett (s.buf.take (clampN a s.buf.length)) (fun _ hp => List.mem_of_mem_take hp) (-1)
    have hp7 := h.buf p (List.mem_of_getElem? hp)
    refine ⟨?_, ?_, by simp, by simp⟩
    · have := hs.len
      simp only [List.length_set] at this ⊢
      exact this
    · simp only
      rw [List.getElem?_set_ne hp7]
      exact hs.at7
theorem Seven.new (l : List UInt8) (hl : l.length ≤ 64) : (newSt 8).wErr 7 l.length = 0 ∧ Seven ((newSt 8).wSt 7 l).fSt (pad l) 0 ∧ ((newSt 8).wSt 7 l).buf.length = 1 := by
  have hr : (newSt 8).refuse 7 = 0 := by decide +kernel
  refine ⟨wErr_zero hr hl, ?_⟩
  rw [wSt_zero hr hl]
  refine ⟨?_, by simp [newSt]⟩
  unfold D.fSt
  rw [if_neg (by show ¬ tick (-1) = 0; decide)]
  exact ⟨by simp [settle_length, newSt], by simp [newSt, settle], by simp, by simp⟩
/-- behind the last crash -/
theorem Seven.last {s : D} {x : List UInt8} {k : Nat} (h : Seven s x k) : (s.cSt 0 0).refuse 7 = 0 ∧ (s.cSt 0 0).told 7 = x ∧ (s.cSt 0 0).buf.length = 0 := by
  have hc := h.crash 0 0
  refine ⟨?_, ?_, rfl⟩
  · unfold D.refuse
    rw [if_neg (by show ¬ (-1 : Int) = 0; omega), if_neg (by rw [hc.len]; omega)]
  · unfold D.told
    show (settle (s.cSt 0 0).last [])[7]?.getD [] = x
    show (s.cSt 0 0).last[7]?.getD [] = x
    rw [hc.at7]
    rfl

/-- what the operations of the law's last line yield -/
def lsF (kb : Nat) (A : Option Addr) (n c : Nat) (x : List UInt8) : Nat → Value → World → Prop
  | 0, v, _ => v = .int .i64 0
  | 3, v, _ => v = .slice (some ⟨kb, 0, none⟩) 64 64
  | 4, v, _ | 7, v, _ => v = .string ⟨x.toArray⟩
  | 5, v, _ => v = .slice A n c
  | 6, v, w => ∃ k, v = .slice (some ⟨k, 0, none⟩) 64 64 ∧ Hold w (some ⟨k, 0, none⟩) 64 64 x
  | _, v, _ => v = .bool true
theorem lsF_mono {kb : Nat} {A : Option Addr} {n c : Nat} {x : List UInt8} : ∀ i v w w', lsF kb A n c x i v w → Below w.heap.size w w' → lsF kb A n c x i v w' := by
  intro i v w w' h hR
  unfold lsF at *
  split at h
  all_goals first
    | exact h
    | (obtain ⟨k, e, h1⟩ := h; exact ⟨k, e, h1.below hR⟩)

set_option maxRecDepth 100000 in
set_option maxHeartbeats 2000000 in
theorem diskLasts_walk (A : Option Addr) (n c : Nat) (l : List UInt8) (B : Option Addr) (N C : Nat) (os : List OpR) (w : World) (hl : Hold w A n c l) (ho : Ops w B N os) (hN : N ≤ 1048576) (hn : n ≤ 140737488355328) :
    Calls Try.prog 6 #[.slice A n c, .slice B N C] w fun e w' => e = .returned (.bool true) ∧ Below w.heap.size w w' := by
  have HL := Lib.hid hl
  have hll := Lib.hid hl.1
  have HO := Lib.hid ho
  clear hl ho
  go_enter Try.func6, Try.ntmps6
  go_wp2_with fail
  refine (new_mine w w 8 (Below.refl _ _)).mono ?_
  rintro e w1 ⟨g, rfl, h1, _, _⟩
  have H1 : Hid (Mine w w1 g (newSt 8)) := h1
  clear h1
  go_wp2_with fail
  refine (awake_any w1).mono ?_
  rintro e w2 ⟨rfl, hb2⟩
  have H2 := Lib.hid (H1.out.below hb2)
  clear H1 hb2
  by_cases h64 : (64 : Int) < (n : Int)
  · go_wp2_with fail
    refine (awake_any w2).mono ?_
    rintro e w3 ⟨rfl, hb3⟩
    have H3 := Lib.hid (H2.out.below hb3).b
    clear hb3 H2
    go_wp2_with fail
    go_ret
    exact ⟨rfl, H3.out⟩
  have hn64 : n ≤ 64 := by omega
  go_wp2_with fail
  have h0 := Seven.new l (by rw [hll.out]; exact hn64)
  rw [hll.out] at h0
  have HS := Lib.hid h0.2.1
  have hbl := h0.2.2
  have hwe := h0.1
  clear h0
  refine (write_mine H2.out 7 A n c l (HL.out.below H2.out.b) (by omega) (by show (0 + 1) * 72 ≤ _; omega)).mono ?_
  rintro e w3 ⟨rfl, h3, _⟩
  have H3 := Lib.hid h3
  clear h3 H2
  go_wp2_with fail
  refine (flush_mine H3.out (by omega)).mono ?_
  rintro e w4 ⟨rfl, h4, _⟩
  have H4 := Lib.hid h4
  clear h4 H3
  generalize ((newSt 8).wSt 7 l).fSt = s0 at *
  clear hbl hwe
  go_wp2_with fail
  go_loopw [6] (fun i wr => ∃ (k : Nat) (s : D), k ≤ N ∧ i = .int .i64 (k : Int) ∧ Seven s (pad l) k ∧ Mine w wr g s) (fun i _ => N - (intOf i).toNat)
  case atStart => exact ⟨0, s0, by omega, rfl, HS.out, H4.out⟩
  case round =>
    obtain ⟨k, s, hk, rfl, hS, hM⟩ := hrel
    have HS := Lib.hid hS
    have HM := Lib.hid hM
    have hbl : s.buf.length ≤ 1048576 := by have := hS.bl; omega
    clear hS hM H4
    by_cases hlt : k < N
    · obtain ⟨b, off, o, rfl, hrg, hok⟩ := HO.out.at HM.out.b hlt
      obtain ⟨kd, oi, nn, A2, n2, c2, l2⟩ := o
      have HRG : Hid (wr.rangeAt b (off + k * 4) [.int .i64 kd, .int .i64 oi, .int .i64 nn, .slice A2 n2 c2]) := hrg
      have HK := Lib.hid hok
      have hi1 := hok.i1
      have hi2 := hok.i2
      have hn1 := hok.n1
      have hn2 := hok.n2
      have hsz := hok.size
      simp only at hi1 hi2 hn1 hn2 hsz
      have hk0 : (0 : Int) ≤ (k : Int) := Int.natCast_nonneg _
      have hk1 : (k : Int) < (N : Int) := by omega
      have HI30 : Hid ((Try.prog.info? 30).map (·.size) = some [Value.int .i64 kd, .int .i64 oi, .int .i64 nn, .slice A2 n2 c2].length) := Try.size30
      clear hrg hok
      by_cases k1 : kd = 1
      · by_cases h7 : oi = 7
        · have h7' : ¬ oi ≠ 7 := by omega
          go_wp2_with (with_reducible refine wpList_load_mid rfl 30 (.tmp 36) rfl b (off + k * 4) rfl [.int .i64 kd, .int .i64 oi, .int .i64 nn, .slice A2 n2 c2] _ HRG.out Try.underlying30 rfl HI30.out ?_)
          go_roundw
          case rel => exact ⟨k + 1, s, by omega, by go_num, HS.out.more, HM.out.alloc _⟩
          case measure => simp [intOf]; omega
        · go_wp2_with (with_reducible refine wpList_load_mid rfl 30 (.tmp 36) rfl b (off + k * 4) rfl [.int .i64 kd, .int .i64 oi, .int .i64 nn, .slice A2 n2 c2] _ HRG.out Try.underlying30 rfl HI30.out ?_)
          refine (write_mine (HM.out.alloc _) oi A2 n2 c2 l2 (HK.out.hold.below ((Below.refl _ _).alloc (Nat.le_refl _) _)) (by omega) (by omega)).mono ?_
          rintro e w5 ⟨rfl, h5, _⟩
          have H5 := Lib.hid h5
          clear h5
          go_wp2_with fail
          go_roundw
          case rel => exact ⟨k + 1, _, by omega, by go_num, HS.out.write oi h7 l2, H5.out⟩
          case measure => simp [intOf]; omega
      by_cases k2 : kd = 2
      · go_wp2_with (with_reducible refine wpList_load_mid rfl 30 (.tmp 36) rfl b (off + k * 4) rfl [.int .i64 kd, .int .i64 oi, .int .i64 nn, .slice A2 n2 c2] _ HRG.out Try.underlying30 rfl HI30.out ?_)
        refine (flush_mine (HM.out.alloc _) (by omega)).mono ?_
        rintro e w5 ⟨rfl, h5, _⟩
        have H5 := Lib.hid h5
        clear h5
        go_wp2_with fail
        go_roundw
        case rel => exact ⟨k + 1, _, by omega, by go_num, HS.out.flush.more, H5.out⟩
        case measure => simp [intOf]; omega
      by_cases k3 : kd = 3
      · go_wp2_with (with_reducible refine wpList_load_mid rfl 30 (.tmp 36) rfl b (off + k * 4) rfl [.int .i64 kd, .int .i64 oi, .int .i64 nn, .slice A2 n2 c2] _ HRG.out Try.underlying30 rfl HI30.out ?_)
        refine (arm_mine (HM.out.alloc _) nn hn1 hn2).mono ?_
        rintro e w5 ⟨rfl, h5, _⟩
        have H5 := Lib.hid h5
        clear h5
        go_wp2_with fail
        go_roundw
        case rel => exact ⟨k + 1, _, by omega, by go_num, (HS.out.arm nn).more, H5.out⟩
        case measure => simp [intOf]; omega
      by_cases k4 : kd = 4
      · go_wp2_with (with_reducible refine wpList_load_mid rfl 30 (.tmp 36) rfl b (off + k * 4) rfl [.int .i64 kd, .int .i64 oi, .int .i64 nn, .slice A2 n2 c2] _ HRG.out Try.underlying30 rfl HI30.out ?_)
        refine (crash_mine (HM.out.alloc _) oi nn (by omega)).mono ?_
        rintro e w5 ⟨rfl, h5, _⟩
        have H5 := Lib.hid h5
        clear h5
        go_wp2_with fail
        go_roundw
        case rel => exact ⟨k + 1, _, by omega, by go_num, (HS.out.crash oi nn).more, H5.out⟩
        case measure => simp [intOf]; omega
      go_wp2_with (with_reducible refine wpList_load_mid rfl 30 (.tmp 36) rfl b (off + k * 4) rfl [.int .i64 kd, .int .i64 oi, .int .i64 nn, .slice A2 n2 c2] _ HRG.out Try.underlying30 rfl HI30.out ?_)
      go_roundw
      case rel => exact ⟨k + 1, s, by omega, by go_num, HS.out.more, HM.out.alloc _⟩
      case measure => simp [intOf]; omega
    · obtain rfl : k = N := by omega
      have hla := HS.out.last
      have HLA := Lib.hid hla
      have hbl2 : (s.cSt 0 0).buf.length = 0 := hla.2.2
      clear hla
      go_wp2_with fail
      refine (crash_mine HM.out 0 0 (by omega)).mono ?_
      rintro e w5 ⟨rfl, h5, _⟩
      have H5 := Lib.hid h5
      clear h5 HM
      generalize s.cSt 0 0 = s2 at *
      go_wp2_with fail
      refine (read_ok H5.out 7 (by omega) HLA.out.1).mono ?_
      rintro e w6 ⟨kb, rfl, hkb, hcont, hb6, h6⟩
      have ht : s2.told (Int.toNat 7) = pad l := HLA.out.2.1
      rw [ht] at hcont
      have H6 := Lib.hid h6
      have hpl : (pad l).length = 64 := pad_length l (by rw [hll.out]; exact hn64)
      have HC := Lib.hid (Hold.block hcont 64 hpl.symm)
      have HLW := Lib.hid (HL.out.below h6.b)
      clear h6 hcont ht H5 hb6 hkb hbl2 HLA HS hpl
      have hX : ∃ x, pad l = x := ⟨_, rfl⟩
      obtain ⟨x, hx⟩ := hX
      have HX := Lib.hid hx
      rw [hx] at HC
      have hxl : x.length = 64 := by rw [← hx]; exact pad_length l (by rw [hll.out]; exact hn64)
      have HXL := Lib.hid hxl
      clear hx hxl
      go_wp2_with fail
      refine wp_region_steps (lsF kb A n c x) (fun w w' => Below w.heap.size w w') (by kernel_rfl) (by kernel_rfl) (fun w => Below.refl _ _) (fun _ _ _ h k => Below.trans h (Below.mono k (Below.size h))) lsF_mono ?_ ?_
      · refine ⟨?_, ?_, ?_, ?_, ?_, ?_, ?_, ?_, ?_, ?_, ?_, trivial⟩
        · intro a W hR hoff hd
          left
          refine ⟨rfl, ?_⟩
          have e0 : a.tmps.getD 9 undef = .int .i64 0 := hoff.slot 9 (no_dst (by kernel_rfl))
          go_simp
          exact ⟨_, rfl, rfl, Below.refl _ _⟩
        · intro a W hR hoff hd
          left
          refine ⟨rfl, ?_⟩
          have e0 : a.tmps.getD 76 undef = .int .i64 0 := hd 0 _ rfl rfl
          go_simp
          exact ⟨_, rfl, rfl, Below.refl _ _⟩
        · intro a W hR hoff hd
          left
          refine ⟨rfl, ?_⟩
          have e0 : a.tmps.getD 77 undef = .bool true := hd 1 _ rfl rfl
          go_simp
          exact ⟨_, rfl, rfl, Below.refl _ _⟩
        · intro a W hR hoff hd
          left
          have eg : a.tmps.getD 78 undef = .bool true := hd 2 _ rfl rfl
          refine ⟨wanted_of (ops := _) (j := 2) (b := true) rfl rfl rfl eg, ?_⟩
          clear eg
          have e0 : a.tmps.getD 8 undef = .slice (some ⟨kb, 0, none⟩) 64 64 := hoff.slot 8 (no_dst (by kernel_rfl))
          go_simp
          exact ⟨_, rfl, rfl, Below.refl _ _⟩
        · intro a W hR hoff hd
          left
          have eg : a.tmps.getD 78 undef = .bool true := hd 2 _ rfl rfl
          refine ⟨wanted_of (ops := _) (j := 2) (b := true) rfl rfl rfl eg, ?_⟩
          clear eg
          have e0 : a.tmps.getD 79 undef = .slice (some ⟨kb, 0, none⟩) 64 64 := hd 3 _ rfl rfl
          have cv := conv_hold (HC.out.drew.below hR)
          go_simp
          exact ⟨_, rfl, rfl, Below.refl _ _⟩
        · intro a W hR hoff hd
          left
          have eg : a.tmps.getD 78 undef = .bool true := hd 2 _ rfl rfl
          refine ⟨wanted_of (ops := _) (j := 2) (b := true) rfl rfl rfl eg, ?_⟩
          clear eg
          have e0 : a.tmps.getD 0 undef = .slice A n c := hoff.slot 0 (no_dst (by kernel_rfl))
          go_simp
          exact ⟨_, rfl, rfl, Below.refl _ _⟩
        · intro a W hR hoff hd
          left
          have eg : a.tmps.getD 78 undef = .bool true := hd 2 _ rfl rfl
          refine ⟨wanted_of (ops := _) (j := 2) (b := true) rfl rfl rfl eg, ?_⟩
          clear eg
          have e0 : a.tmps.getD 81 undef = .slice A n c := hd 5 _ rfl rfl
          have hlw := Lib.hid (HLW.out.drew.below hR)
          go_simp
          refine (whole_any W A n c l hlw.out hn64).mono ?_
          rintro e W2 ⟨k2, rfl, _, hk2, hb2⟩
          rw [HX.out] at hk2
          exact ⟨_, rfl, ⟨k2, rfl, Hold.block hk2 64 HXL.out.symm⟩, hb2⟩
        · intro a W hR hoff hd
          left
          have eg : a.tmps.getD 78 undef = .bool true := hd 2 _ rfl rfl
          refine ⟨wanted_of (ops := _) (j := 2) (b := true) rfl rfl rfl eg, ?_⟩
          clear eg
          obtain ⟨k2, e0, h2⟩ : ∃ k, a.tmps.getD 82 undef = .slice (some ⟨k, 0, none⟩) 64 64 ∧ Hold W (some ⟨k, 0, none⟩) 64 64 x := hd 6 _ rfl rfl
          have cv := conv_hold h2
          clear h2
          go_simp
          exact ⟨_, rfl, rfl, Below.refl _ _⟩
        · intro a W hR hoff hd
          left
          have eg : a.tmps.getD 78 undef = .bool true := hd 2 _ rfl rfl
          refine ⟨wanted_of (ops := _) (j := 2) (b := true) rfl rfl rfl eg, ?_⟩
          clear eg
          have e0 : a.tmps.getD 80 undef = .string ⟨x.toArray⟩ := hd 4 _ rfl rfl
          have e1 : a.tmps.getD 83 undef = .string ⟨x.toArray⟩ := hd 7 _ rfl rfl
          go_simp
          exact ⟨_, rfl, rfl, Below.refl _ _⟩
        · intro a W hR hoff hd
          left
          refine ⟨rfl, ?_⟩
          have e0 : a.tmps.getD 78 undef = .bool true := hd 2 _ rfl rfl
          have e1 : a.tmps.getD 84 undef = .bool true := hd 8 _ rfl rfl
          go_simp
          exact ⟨_, rfl, rfl, Below.refl _ _⟩
        · intro a W hR hoff hd
          left
          refine ⟨rfl, ?_⟩
          have e0 : a.tmps.getD 85 undef = .bool true := hd 9 _ rfl rfl
          go_simp
          exact ⟨_, rfl, rfl, Below.refl _ _⟩
      · intro a W hR hoff hd
        have e4 : a.tmps.getD 4 undef = .bool true := hd 10 _ rfl
        have HB := Lib.hid ((H6.out.b.drew).trans (hR.mono H6.out.b.size))
        rename_i hK
        refine hK _ _ ?_
        go_wp2
        exact bodyPost_ret (results_tmp rfl _ _ _) hoff.defers ⟨by rw [e4], HB.out⟩
end Go.Proofs.Ytmajmohnnfjiaaa
