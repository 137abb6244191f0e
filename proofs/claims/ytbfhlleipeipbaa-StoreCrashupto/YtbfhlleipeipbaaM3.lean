/-
  What is proved: the texts Da, Db, Dc, Dd, Oo, Ly in one: what each proves stands ahead of it. Conditions: those in each statement.
-/
import Derived.Test.YtbfhlleipeipbaaM2
/- What is proved: the contracts of store's openArea, noRoom and openEmpty. Conditions: those in each statement. -/
namespace Go.Proofs.Ytbfhlleipeipbaa
open Go.RowKit

/-- how many sectors an area has, and where it begins -/
def hlf (n : Nat) : Nat := (n - 2) / 2
def frA (n a : Nat) : Nat := 2 + a * hlf n
theorem hlf_int {n : Nat} (h : 2 ≤ n) : ((n : Int) - 2) / 2 = (hlf n : Int) := by unfold hlf; omega

set_option maxRecDepth 100000 in
set_option maxHeartbeats 1000000 in
theorem openArea_0 (w0 w : World) (g : Nat) (s : D) (hm : Mine w0 w g s) (hN : 4 ≤ s.last.length) (en cn : Int) (hbuf : s.buf.length ≤ 1099511627776) :
    Calls Try.prog 28 #[.pointer (some ⟨g, 0, none⟩), .int .i64 0, .int .i64 en, .int .i64 cn] w (OpenPost w g s 2 (2 + (hlf s.last.length : Nat)) en cn) := by
  have hmost := hm.ok.most
  obtain ⟨L, q, hd, _, _⟩ := id hm
  have HS := Lib.hid (size_any w g L q s hd)
  have hh := hlf_int (n := s.last.length) (by omega)
  have hhl : hlf s.last.length ≤ 32768 := by unfold hlf; omega
  have HO := Lib.hid (open_mine hm 2 (2 + (hlf s.last.length : Nat)) en cn (by omega) (by omega) (by omega))
  clear hd hm
  generalize hlf s.last.length = H at *
  generalize s.last.length = n at *
  go_enter Try.func28, Try.ntmps28
  go_wp2_with (go_at_call 25; refine HS.out.mono ?_; rintro e w1 ⟨rfl, rfl⟩)
  refine HO.out.mono ?_
  intro e w2 hp
  rcases hp with ⟨hp, hn⟩
  by_cases h0 : s.openErr 2 (2 + (H : Int)) en cn = 0
  · have hp' := hp h0
    obtain ⟨j, B, C, he, h1⟩ := id hp'
    subst he
    have HP := Lib.hid (show OpenPost w1 g s 2 (2 + (H : Int)) en cn _ w2 from ⟨hp, hn⟩)
    clear hp hn hp' h1 h0
    go_wp2_with fail
    exact bodyPost_ret (v := .tuple #[.pointer (some ⟨j, 0, none⟩), .slice B (s.openFs 2 en).length C, .int .i64 0]) (by simp [results, Try.results28, go_sem]) rfl HP.out
  · have hn' := hn h0
    obtain ⟨he, h1⟩ := id hn'
    subst he
    have HP := Lib.hid (show OpenPost w1 g s 2 (2 + (H : Int)) en cn _ w2 from ⟨hp, hn⟩)
    clear hp hn hn' h1
    generalize s.openErr 2 (2 + (H : Int)) en cn = er at *
    go_wp2_with fail
    exact bodyPost_ret (v := .tuple #[.pointer none, .slice none 0 0, .int .i64 er]) (by simp [results, Try.results28, go_sem]) rfl HP.out
set_option maxRecDepth 100000 in
set_option maxHeartbeats 1000000 in
theorem openArea_1 (w0 w : World) (g : Nat) (s : D) (hm : Mine w0 w g s) (hN : 4 ≤ s.last.length) (en cn : Int) (hbuf : s.buf.length ≤ 1099511627776) :
    Calls Try.prog 28 #[.pointer (some ⟨g, 0, none⟩), .int .i64 1, .int .i64 en, .int .i64 cn] w (OpenPost w g s (2 + (hlf s.last.length : Nat)) (2 + (hlf s.last.length : Nat) + (hlf s.last.length : Nat)) en cn) := by
  have hmost := hm.ok.most
  obtain ⟨L, q, hd, _, _⟩ := id hm
  have HS := Lib.hid (size_any w g L q s hd)
  have hh := hlf_int (n := s.last.length) (by omega)
  have hhl : hlf s.last.length ≤ 32768 := by unfold hlf; omega
  have HO := Lib.hid (open_mine hm (2 + (hlf s.last.length : Nat)) (2 + (hlf s.last.length : Nat) + (hlf s.last.length : Nat)) en cn (by omega) (by omega) (by omega))
  clear hd hm
  generalize hlf s.last.length = H at *
  generalize s.last.length = n at *
  go_enter Try.func28, Try.ntmps28
  go_wp2_with (go_at_call 25; refine HS.out.mono ?_; rintro e w1 ⟨rfl, rfl⟩)
  refine HO.out.mono ?_
  intro e w2 hp
  rcases hp with ⟨hp, hn⟩
  by_cases h0 : s.openErr (2 + (H : Int)) (2 + (H : Int) + (H : Int)) en cn = 0
  · have hp' := hp h0
    obtain ⟨j, B, C, he, h1⟩ := id hp'
    subst he
    have HP := Lib.hid (show OpenPost w1 g s (2 + (H : Int)) (2 + (H : Int) + (H : Int)) en cn _ w2 from ⟨hp, hn⟩)
    clear hp hn hp' h1 h0
    go_wp2_with fail
    exact bodyPost_ret (v := .tuple #[.pointer (some ⟨j, 0, none⟩), .slice B (s.openFs (2 + (H : Int)) en).length C, .int .i64 0]) (by simp [results, Try.results28, go_sem]) rfl HP.out
  · have hn' := hn h0
    obtain ⟨he, h1⟩ := id hn'
    subst he
    have HP := Lib.hid (show OpenPost w1 g s (2 + (H : Int)) (2 + (H : Int) + (H : Int)) en cn _ w2 from ⟨hp, hn⟩)
    clear hp hn hn' h1
    generalize s.openErr (2 + (H : Int)) (2 + (H : Int) + (H : Int)) en cn = er at *
    go_wp2_with fail
    exact bodyPost_ret (v := .tuple #[.pointer none, .slice none 0 0, .int .i64 er]) (by simp [results, Try.results28, go_sem]) rfl HP.out
theorem openArea_any (w0 w : World) (g : Nat) (s : D) (hm : Mine w0 w g s) (a : Nat) (ha : a ≤ 1) (hN : 4 ≤ s.last.length) (en cn : Int) (hbuf : s.buf.length ≤ 1099511627776) :
    Calls Try.prog 28 #[.pointer (some ⟨g, 0, none⟩), .int .i64 (a : Int), .int .i64 en, .int .i64 cn] w (OpenPost w g s (frA s.last.length a : Nat) ((frA s.last.length a : Nat) + (hlf s.last.length : Nat)) en cn) := by
  rcases (show a = 0 ∨ a = 1 by omega) with rfl | rfl
  · have e : ((frA s.last.length 0 : Nat) : Int) = 2 := by unfold frA; omega
    rw [e]
    exact openArea_0 w0 w g s hm hN en cn hbuf
  · have e : ((frA s.last.length 1 : Nat) : Int) = 2 + (hlf s.last.length : Nat) := by unfold frA; omega
    rw [e]
    exact openArea_1 w0 w g s hm hN en cn hbuf
def noRm (e : Int) : Bool := e == 51 || e == 3
set_option maxHeartbeats 400000 in
theorem noRoom_yes (e : Int) (w : World) (h : e = 51 ∨ e = 3) : Calls Try.prog 79 #[.int .i64 e] w fun en w' => en = .returned (.bool true) ∧ w = w' := by
  rcases h with rfl | rfl
  · go_enter Try.func79, Try.ntmps79
    go_wp2
    go_ret
    exact ⟨rfl, rfl⟩
  · go_enter Try.func79, Try.ntmps79
    go_wp2
    go_ret
    exact ⟨rfl, rfl⟩
set_option maxHeartbeats 400000 in
theorem noRoom_no (e : Int) (w : World) (h1 : e ≠ 51) (h2 : e ≠ 3) : Calls Try.prog 79 #[.int .i64 e] w fun en w' => en = .returned (.bool false) ∧ w = w' := by
  have e1 : (e == 51) = false := by simpa using h1
  have e2 : (e == 3) = false := by simpa using h2
  go_enter Try.func79, Try.ntmps79
  go_wp2
  go_ret
  exact ⟨rfl, rfl⟩
end Go.Proofs.Ytbfhlleipeipbaa

/- What is proved: the contracts of bytes.Equal and of store.mendCell on a disk that is up and not armed. Conditions: those in each statement. -/
namespace Go.Proofs.Ytbfhlleipeipbaa
open Go.RowKit

set_option maxHeartbeats 400000 in
theorem equal_any (A A2 : Option Addr) (n c n2 c2 : Nat) (l m : List UInt8) (w : World) (h : Hold w A n c l) (h2 : Hold w A2 n2 c2 m) :
    Calls Try.prog 49 #[.slice A n c, .slice A2 n2 c2] w fun e w' => e = .returned (.bool (l == m)) ∧ w = w' := by
  have k1 := conv_hold h
  have k2 := conv_hold h2
  have he : (l == m) = ((⟨l.toArray⟩ : ByteArray).toList == (⟨m.toArray⟩ : ByteArray).toList) := by rw [ByteArray.toList_eq, ByteArray.toList_eq]
  have HE := Lib.hid he
  clear h h2 he
  generalize (⟨l.toArray⟩ : ByteArray) = x at *
  generalize (⟨m.toArray⟩ : ByteArray) = y at *
  go_enter Try.func49, Try.ntmps49
  go_wp2
  go_ret
  exact ⟨by rw [HE.out]; rfl, rfl⟩
/-! ### mendCell -/
def mendS (s : D) (i : Nat) : D := if (s.told i).take 32 = (s.told i).drop 32 then s else (s.wSt (i : Int) []).fSt
def mendP (s : D) : Nat → D
  | 0 => s
  | j + 1 => mendS (mendP s j) j
theorem mendP_zero (s : D) : mendP s 0 = s := by rw [mendP]
theorem mendP_succ (s : D) (j : Nat) : mendP s (j + 1) = mendS (mendP s j) j := by rw [mendP]
def mend (s : D) : D := mendP s 2
theorem mendS_ok (s : D) (h : s.left < 0) (i : Nat) (hi : i < s.last.length) : (mendS s i).left = s.left ∧ (mendS s i).last.length = s.last.length ∧ (mendS s i).buf.length ≤ s.buf.length := by
  by_cases he : (s.told i).take 32 = (s.told i).drop 32
  · have : mendS s i = s := by unfold mendS; rw [if_pos he]
    rw [this]; exact ⟨rfl, rfl, Nat.le_refl _⟩
  · have h1 : s.refuse (i : Int) = 0 := by unfold D.refuse; rw [if_neg (by omega), if_neg (by omega)]
    have : mendS s i = ⟨settle s.last (s.buf ++ [(i, pad [])]), [], s.left⟩ := by
      unfold mendS
      rw [if_neg he, wSt_zero h1 (by simp), fSt_up (by rw [tick_up h]; exact h), tick_up h]
      rfl
    rw [this]
    exact ⟨rfl, settle_length _ _, Nat.zero_le _⟩
theorem mendP_ok (s : D) (h : s.left < 0) (hN : 2 ≤ s.last.length) : ∀ j, j ≤ 2 → (mendP s j).left = s.left ∧ (mendP s j).last.length = s.last.length ∧ (mendP s j).buf.length ≤ s.buf.length
  | 0, _ => by rw [mendP_zero]; exact ⟨rfl, rfl, Nat.le_refl _⟩
  | j + 1, hj => by
    obtain ⟨a, b, c⟩ := mendP_ok s h hN j (by omega)
    obtain ⟨d, e, f⟩ := mendS_ok (mendP s j) (by rw [a]; exact h) j (by rw [b]; omega)
    rw [mendP_succ]
    exact ⟨d.trans a, e.trans b, Nat.le_trans f c⟩
def meF (k : Nat) (b : Bool) : Nat → Value → World → Prop
  | 0, v, _ => v = .slice (some ⟨k, 0, none⟩) 64 64
  | 1, v, _ => v = .slice (some ⟨k, 0, none⟩) 32 64
  | 2, v, _ => v = .slice (some ⟨k, 0, none⟩) 64 64
  | 3, v, _ => v = .slice (some ⟨k, 32, none⟩) 32 32
  | 4, v, _ => v = .bool b
  | _, _, _ => True
theorem meF_mono (k : Nat) (b : Bool) (i : Nat) (v : Value) (w w' : World) (f : meF k b i v w) (_ : Below w.heap.size w w') : meF k b i v w' := by
  match i with
  | 0 | 1 | 2 | 3 | 4 => exact f
  | _ + 5 => trivial
theorem Hold.halves {w : World} {k : Nat} {l : List UInt8} {t : TypeId} {fr : Nat × Nat} (h : w.heap[k]? = some (.cells (bv l).toArray t fr)) (hl : l.length = 64) : Hold w (some ⟨k, 0, none⟩) 32 64 (l.take 32) ∧ Hold w (some ⟨k, 32, none⟩) 32 32 (l.drop 32) := by
  have h0 := Hold.block h 64 hl.symm
  exact ⟨h0.take (by omega), h0.drop (k := 32) (by omega) (fun _ => by simp [Addr.add_lit]) (fun e => by omega)⟩

set_option maxRecDepth 100000 in
set_option maxHeartbeats 2000000 in
theorem mendCell_any (w0 w : World) (g : Nat) (s : D) (hm : Mine w0 w g s) (hup : s.left < 0) (hN : 2 ≤ s.last.length) (hbuf : s.buf.length ≤ 1099511627776) :
    Calls Try.prog 31 #[.pointer (some ⟨g, 0, none⟩)] w fun e w' => e = .returned (.int .i64 0) ∧ Mine w0 w' g (mend s) ∧ OthersD w w' := by
  have hok := mendP_ok s hup hN
  have HOK := Lib.hid hok
  have HM := Lib.hid hm
  clear hm hok
  go_enter Try.func31, Try.ntmps31
  go_wp2_with fail
  go_loopg [3, 4, 5, 6, 7, 8] 2 (fun kx _ _ _ _ _ v8 wr => ∃ (j : Nat), v8 = .int .i64 (j : Int) ∧ j ≤ 2 ∧ 2 - j ≤ kx ∧ Aside (Mine w0 wr g (mendP s j)) ∧ Aside (OthersD w wr))
  case atStart =>
    have h0 : Mine w0 w g (mendP s 0) := by rw [mendP_zero]; exact HM.out
    exact ⟨0, rfl, by omega, by omega, (h0 : Aside _), (OthersD.refl w : Aside _)⟩
  case round =>
    clear HM
    obtain ⟨j, rfl, hj2, hkx, HM, HO⟩ := hrel
    by_cases hlt : j < 2
    · obtain ⟨ha, hb, hc⟩ := HOK.out j hj2
      have hsu := mendP_succ s j
      obtain ⟨s2, hs2⟩ : ∃ s2, s2 = mendP s (j + 1) := ⟨_, rfl⟩
      have HSU' := Lib.hid hs2
      rw [← hs2] at hsu
      clear hs2
      generalize mendP s j = s1 at *
      have hr : s1.refuse (j : Int) = 0 := by unfold D.refuse; rw [if_neg (by omega), if_neg (by omega)]
      have htl : (s1.told j).length = 64 := HM.out.ok.told_len (by omega)
      have hrd := read_ok HM.out (j : Int) (by omega) hr
      rw [Int.toNat_natCast] at hrd
      have HRD := Lib.hid hrd
      have HR := Lib.hid hr
      have HTL := Lib.hid htl
      have HSU := Lib.hid hsu
      have hl0 : s1.left < 0 := by omega
      have hbu : s1.buf.length ≤ 1099511627776 := by omega
      have hjl : j < s1.last.length := by omega
      clear ha hb hc hsu hr htl hrd
      generalize hT : s1.told j = T at *
      have HTT := Lib.hid hT
      clear hT
      rcases (show j = 0 ∨ j = 1 by omega) with rfl | rfl
      · go_wp2_with fail
        refine HRD.out.mono ?_
        rintro e w1 ⟨k, rfl, hk, hkb, hb1⟩
        have HKB := Lib.hid hkb
        have HM1 := Lib.hid (HM.out.below hb1)
        have HO1 := Lib.hid (HO.out.trans (OthersD.below hb1))
        clear hk hkb hb1 HM HO HRD
        go_wp2_with fail
        refine wp_region_steps (meF k (T.take 32 == T.drop 32)) (fun w w' => Below w.heap.size w w') (by kernel_rfl) (by kernel_rfl) (fun w => Below.refl _ _) (fun _ _ _ h k => h.trans (k.mono h.size)) (meF_mono _ _) ?_ ?_
        · refine ⟨?_, ?_, ?_, ?_, ?_, trivial⟩
          · intro x Y hR hoff hd
            left
            refine ⟨rfl, ?_⟩
            have e0 : x.tmps.getD 4 undef = .slice (some ⟨k, 0, none⟩) 64 64 := hoff.slot 4 (no_dst (by kernel_rfl))
            go_simp
            exact ⟨_, rfl, rfl, Below.refl _ _⟩
          · intro x Y hR hoff hd
            left
            refine ⟨rfl, ?_⟩
            have e0 : x.tmps.getD 20 undef = .slice (some ⟨k, 0, none⟩) 64 64 := hd 0 _ rfl rfl
            go_simp
            exact ⟨_, rfl, rfl, Below.refl _ _⟩
          · intro x Y hR hoff hd
            left
            refine ⟨rfl, ?_⟩
            have e0 : x.tmps.getD 4 undef = .slice (some ⟨k, 0, none⟩) 64 64 := hoff.slot 4 (no_dst (by kernel_rfl))
            go_simp
            exact ⟨_, rfl, rfl, Below.refl _ _⟩
          · intro x Y hR hoff hd
            left
            refine ⟨rfl, ?_⟩
            have e0 : x.tmps.getD 22 undef = .slice (some ⟨k, 0, none⟩) 64 64 := hd 2 _ rfl rfl
            go_simp
            exact ⟨_, rfl, rfl, Below.refl _ _⟩
          · intro x Y hR hoff hd
            left
            refine ⟨rfl, ?_⟩
            have e0 : x.tmps.getD 21 undef = .slice (some ⟨k, 0, none⟩) 32 64 := hd 1 _ rfl rfl
            have e1 : x.tmps.getD 23 undef = .slice (some ⟨k, 32, none⟩) 32 32 := hd 3 _ rfl rfl
            have hbY : Below w1.heap.size w1 Y := (Below.refl _ _).drew.trans hR
            obtain ⟨h1, h2⟩ := Hold.halves ((hbY.block _ (Array.getElem?_eq_some_iff.1 HKB.out).1).trans HKB.out) HTL.out
            go_simp
            refine (equal_any _ _ _ _ _ _ _ _ Y h1 h2).mono ?_
            rintro e Y2 ⟨rfl, rfl⟩
            exact ⟨_, rfl, rfl, Below.refl _ _⟩
        · intro x Y hR hoff hd
          have e24 : x.tmps.getD 24 undef = .bool (T.take 32 == T.drop 32) := hd 4 _ rfl
          have hbY : Below w1.heap.size w1 Y := (Below.refl _ _).drew.trans hR
          obtain ⟨ys, hys, ha⟩ := off_form hoff (mask := [false, false, false, false, false, false, false, false, false, false, false, false, false, false, false, false, false, false, false, false, true, true, true, true, true, false, false, false, false, false, false, false, false, false, false, false, false]) (by kernel_rfl)
          rw [hys] at e24
          subst ha
          simp only [fillFrom, Nat.zero_add, Nat.reduceAdd] at *
          rw [e24]
          have HMY := Lib.hid (HM1.out.below hbY)
          have HOY := Lib.hid (HO1.out.trans (OthersD.below hbY))
          clear e24 hys hoff hd hR hbY HM1 HO1 HKB
          rename_i hKK
          refine hKK _ _ ?_
          clear hKK
          by_cases he : T.take 32 = T.drop 32
          · have hs2 : s2 = s1 := by rw [HSU.out]; unfold mendS; rw [HTT.out, if_pos he]
            have hbe : (T.take 32 == T.drop 32) = true := by rw [he]; exact beq_self_eq_true _
            rw [hbe]
            have HS2 := Lib.hid hs2
            clear hs2 he hbe
            go_wp2_with fail
            go_roundg (2 - (0 + 1))
            case measure => omega
            case rel => exact ⟨0 + 1, rfl, by omega, Nat.le_refl _, (by rw [← HSU'.out, HS2.out]; exact HMY.out), (HOY.out : Aside _)⟩
          · have hs2 : s2 = (s1.wSt (0 : Int) []).fSt := by rw [HSU.out]; unfold mendS; rw [HTT.out, if_neg he]; rfl
            have hbe : (T.take 32 == T.drop 32) = false := by simpa using he
            rw [hbe]
            have hw1 : s1.wErr (0 : Int) 0 = 0 := wErr_zero HR.out (by omega)
            have hlw : (s1.wSt (0 : Int) []).left < 0 := by rw [wSt_up hl0]; exact hl0
            have hfe : (s1.wSt (0 : Int) []).fErr = 0 := by unfold D.fErr; rw [if_neg (by omega)]
            have hbl : (s1.wSt (0 : Int) []).buf.length ≤ 4611686018427387904 := by
              rw [wSt_zero (s := s1) (i := (0 : Int)) (l := []) HR.out (by simp), List.length_append]; simp; omega
            have hwm := write_mineD HMY.out (0 : Int) none 0 0 [] (Hold.nil Y) (by omega) (by omega)
            rw [hw1] at hwm
            have HWM := Lib.hid hwm
            have HFE := Lib.hid hfe
            have HS2 := Lib.hid hs2
            clear hs2 he hbe hw1 hfe hwm
            go_wp2_with fail
            refine HWM.out.mono ?_
            rintro e w3 ⟨rfl, hm3, ho3⟩
            have hfm := flush_mineD hm3 hbl
            rw [HFE.out] at hfm
            have HFM := Lib.hid hfm
            have HO3 := Lib.hid (HOY.out.trans ho3)
            clear hm3 ho3 hfm HWM
            go_wp2_with fail
            refine HFM.out.mono ?_
            rintro e w4 ⟨rfl, hm4, ho4⟩
            have HM4 := Lib.hid hm4
            have HO4 := Lib.hid (HO3.out.trans ho4)
            clear hm4 ho4
            go_wp2_with fail
            go_roundg (2 - (0 + 1))
            case measure => omega
            case rel => exact ⟨0 + 1, rfl, by omega, Nat.le_refl _, (by rw [← HSU'.out, HS2.out]; exact HM4.out), (HO4.out : Aside _)⟩
      · go_wp2_with fail
        refine HRD.out.mono ?_
        rintro e w1 ⟨k, rfl, hk, hkb, hb1⟩
        have HKB := Lib.hid hkb
        have HM1 := Lib.hid (HM.out.below hb1)
        have HO1 := Lib.hid (HO.out.trans (OthersD.below hb1))
        clear hk hkb hb1 HM HO HRD
        go_wp2_with fail
        refine wp_region_steps (meF k (T.take 32 == T.drop 32)) (fun w w' => Below w.heap.size w w') (by kernel_rfl) (by kernel_rfl) (fun w => Below.refl _ _) (fun _ _ _ h k => h.trans (k.mono h.size)) (meF_mono _ _) ?_ ?_
        · refine ⟨?_, ?_, ?_, ?_, ?_, trivial⟩
          · intro x Y hR hoff hd
            left
            refine ⟨rfl, ?_⟩
            have e0 : x.tmps.getD 4 undef = .slice (some ⟨k, 0, none⟩) 64 64 := hoff.slot 4 (no_dst (by kernel_rfl))
            go_simp
            exact ⟨_, rfl, rfl, Below.refl _ _⟩
          · intro x Y hR hoff hd
            left
            refine ⟨rfl, ?_⟩
            have e0 : x.tmps.getD 20 undef = .slice (some ⟨k, 0, none⟩) 64 64 := hd 0 _ rfl rfl
            go_simp
            exact ⟨_, rfl, rfl, Below.refl _ _⟩
          · intro x Y hR hoff hd
            left
            refine ⟨rfl, ?_⟩
            have e0 : x.tmps.getD 4 undef = .slice (some ⟨k, 0, none⟩) 64 64 := hoff.slot 4 (no_dst (by kernel_rfl))
            go_simp
            exact ⟨_, rfl, rfl, Below.refl _ _⟩
          · intro x Y hR hoff hd
            left
            refine ⟨rfl, ?_⟩
            have e0 : x.tmps.getD 22 undef = .slice (some ⟨k, 0, none⟩) 64 64 := hd 2 _ rfl rfl
            go_simp
            exact ⟨_, rfl, rfl, Below.refl _ _⟩
          · intro x Y hR hoff hd
            left
            refine ⟨rfl, ?_⟩
            have e0 : x.tmps.getD 21 undef = .slice (some ⟨k, 0, none⟩) 32 64 := hd 1 _ rfl rfl
            have e1 : x.tmps.getD 23 undef = .slice (some ⟨k, 32, none⟩) 32 32 := hd 3 _ rfl rfl
            have hbY : Below w1.heap.size w1 Y := (Below.refl _ _).drew.trans hR
            obtain ⟨h1, h2⟩ := Hold.halves ((hbY.block _ (Array.getElem?_eq_some_iff.1 HKB.out).1).trans HKB.out) HTL.out
            go_simp
            refine (equal_any _ _ _ _ _ _ _ _ Y h1 h2).mono ?_
            rintro e Y2 ⟨rfl, rfl⟩
            exact ⟨_, rfl, rfl, Below.refl _ _⟩
        · intro x Y hR hoff hd
          have e24 : x.tmps.getD 24 undef = .bool (T.take 32 == T.drop 32) := hd 4 _ rfl
          have hbY : Below w1.heap.size w1 Y := (Below.refl _ _).drew.trans hR
          obtain ⟨ys, hys, ha⟩ := off_form hoff (mask := [false, false, false, false, false, false, false, false, false, false, false, false, false, false, false, false, false, false, false, false, true, true, true, true, true, false, false, false, false, false, false, false, false, false, false, false, false]) (by kernel_rfl)
          rw [hys] at e24
          subst ha
          simp only [fillFrom, Nat.zero_add, Nat.reduceAdd] at *
          rw [e24]
          have HMY := Lib.hid (HM1.out.below hbY)
          have HOY := Lib.hid (HO1.out.trans (OthersD.below hbY))
          clear e24 hys hoff hd hR hbY HM1 HO1 HKB
          rename_i hKK
          refine hKK _ _ ?_
          clear hKK
          by_cases he : T.take 32 = T.drop 32
          · have hs2 : s2 = s1 := by rw [HSU.out]; unfold mendS; rw [HTT.out, if_pos he]
            have hbe : (T.take 32 == T.drop 32) = true := by rw [he]; exact beq_self_eq_true _
            rw [hbe]
            have HS2 := Lib.hid hs2
            clear hs2 he hbe
            go_wp2_with fail
            go_roundg (2 - (1 + 1))
            case measure => omega
            case rel => exact ⟨1 + 1, rfl, by omega, Nat.le_refl _, (by rw [← HSU'.out, HS2.out]; exact HMY.out), (HOY.out : Aside _)⟩
          · have hs2 : s2 = (s1.wSt (1 : Int) []).fSt := by rw [HSU.out]; unfold mendS; rw [HTT.out, if_neg he]; rfl
            have hbe : (T.take 32 == T.drop 32) = false := by simpa using he
            rw [hbe]
            have hw1 : s1.wErr (1 : Int) 0 = 0 := wErr_zero HR.out (by omega)
            have hlw : (s1.wSt (1 : Int) []).left < 0 := by rw [wSt_up hl0]; exact hl0
            have hfe : (s1.wSt (1 : Int) []).fErr = 0 := by unfold D.fErr; rw [if_neg (by omega)]
            have hbl : (s1.wSt (1 : Int) []).buf.length ≤ 4611686018427387904 := by
              rw [wSt_zero (s := s1) (i := (1 : Int)) (l := []) HR.out (by simp), List.length_append]; simp; omega
            have hwm := write_mineD HMY.out (1 : Int) none 0 0 [] (Hold.nil Y) (by omega) (by omega)
            rw [hw1] at hwm
            have HWM := Lib.hid hwm
            have HFE := Lib.hid hfe
            have HS2 := Lib.hid hs2
            clear hs2 he hbe hw1 hfe hwm
            go_wp2_with fail
            refine HWM.out.mono ?_
            rintro e w3 ⟨rfl, hm3, ho3⟩
            have hfm := flush_mineD hm3 hbl
            rw [HFE.out] at hfm
            have HFM := Lib.hid hfm
            have HO3 := Lib.hid (HOY.out.trans ho3)
            clear hm3 ho3 hfm HWM
            go_wp2_with fail
            refine HFM.out.mono ?_
            rintro e w4 ⟨rfl, hm4, ho4⟩
            have HM4 := Lib.hid hm4
            have HO4 := Lib.hid (HO3.out.trans ho4)
            clear hm4 ho4
            go_wp2_with fail
            go_roundg (2 - (1 + 1))
            case measure => omega
            case rel => exact ⟨1 + 1, rfl, by omega, Nat.le_refl _, (by rw [← HSU'.out, HS2.out]; exact HM4.out), (HO4.out : Aside _)⟩
    · obtain rfl : j = 2 := by omega
      go_wp2_with fail
      go_ret
      exact ⟨rfl, HM.out, HO.out⟩
end Go.Proofs.Ytbfhlleipeipbaa

/- What is proved: the contract of store.replay over frames that are batches' bytes. Conditions: those in each statement. -/
namespace Go.Proofs.Ytbfhlleipeipbaa
open Go.RowKit

theorem own_hc {w : World} {B n c : Nat} {A : Option Addr} {l : List Cg} (h : w.ownsRow B 52 3 (.slice A n c) n (chV l)) : HC w A n c l ∧ (A = none → c = 0) := by
  have hl : l.length = n := by have := h.1; rw [chV_length] at this; omega
  rcases h.2 with ⟨hv, h0⟩ | ⟨g, cap, cur, hv, hb, hg, hnc, hm, hs, ht⟩
  · injection hv with h1 h2 h3
    subst h1 h2 h3
    exact ⟨⟨hl, Nat.le_refl _, fun h => absurd h (by omega), .inl rfl⟩, fun _ => rfl⟩
  · injection hv with h1 h2 h3
    subst h1 h3
    refine ⟨⟨hl, hnc, fun _ => ⟨g, 0, rfl, (Array.getElem?_eq_some_iff.1 hg).1, ?_⟩, .inr ⟨g, 0, rfl⟩⟩, fun e => by cases e⟩
    subst hl
    exact own_holdsK h
/-- a pile of frames -/
theorem Frames.at {base : Nat} {w : World} {fs : List (List UInt8)} {B : Option Addr} {n C : Nat} (h : Frames base w fs (.slice B n C)) (hn : n = fs.length) {j : Nat} (hj : j < fs.length) : ∃ b A m c, B = some ⟨b, 0, none⟩ ∧ w.cell? ⟨b, j, none⟩ = some (.slice A m c) ∧ Hold w A m c fs[j] ∧ b < w.heap.size := by
  obtain ⟨ps, ⟨hp1, hp2⟩, ho⟩ := h
  subst hn
  have hlen : ps.length = fs.length := by rw [← hp1, List.length_map]
  rcases ho.2 with ⟨hv, h0⟩ | ⟨g, cap, cur, hv, hb, hg, hnc, hm, hs, ht⟩
  · omega
  · injection hv with h1 h2 h3
    subst h1
    have hjp : j < ps.length := by omega
    refine ⟨g, ps[j].1, ps[j].2.1, ps[j].2.2.1, rfl, ?_, ?_, (Array.getElem?_eq_some_iff.1 hg).1⟩
    · have := ho.cells (g := g) rfl j ps[j].val (by simp [hjp])
      rwa [Addr.add_lit, Nat.zero_add] at this
    · have := Hold.of_own (hp2 ps[j] (List.getElem_mem hjp))
      have e : fs[j] = ps[j].2.2.2 := by simp [← hp1]
      rw [e]; exact this
def totN (bs : List (List Cg)) : Nat := bs.flatten.length
theorem flat_take (bs : List (List Cg)) (j : Nat) (h : j < bs.length) : (bs.take (j + 1)).flatten = (bs.take j).flatten ++ bs[j] := by
  rw [List.take_succ_eq_append_getElem h, List.flatten_append]; simp
theorem flat_take_le (bs : List (List Cg)) (j : Nat) : (bs.take j).flatten.length ≤ bs.flatten.length := by
  conv => rhs; rw [← List.take_append_drop j bs, List.flatten_append, List.length_append]
  omega
/-- what replay answers -/
def RepPost (w : World) (bs : List (List Cg)) (e : Ending) (w' : World) : Prop :=
  ∃ A n c, e = .returned (.tuple #[.slice A n c, .bool true]) ∧ w'.ownsRow w.heap.size 52 3 (.slice A n c) n (chV (allC [] bs.flatten)) ∧ Below w.heap.size w w'

set_option maxRecDepth 100000 in
set_option maxHeartbeats 2000000 in
theorem replay_any (w : World) (B : Option Addr) (n C base : Nat) (bs : List (List Cg)) (hf : Frames base w (bs.map batB) (.slice B n C)) (hn : n = bs.length) (hs : ∀ b ∈ bs, (batB b).length ≤ 549755813888) (hv : ∀ b ∈ bs, ∀ x ∈ b, x.key.size + x.val.size ≤ 274877906944) (ht : bs.flatten.length ≤ 1099511627776) (hnn : n ≤ 1099511627776) :
    Calls Try.prog 29 #[.slice B n C] w (RepPost w bs) := by
  have HF := Lib.hid hf
  have HN := Lib.hid hn
  have HS := Lib.hid hs
  have HV := Lib.hid hv
  clear hf hn hs hv
  go_enter Try.func29, Try.ntmps29
  go_wp2_with fail
  go_loopg [4, 6, 7, 8, 11] n (fun kx v4 _ _ _ v11 wr => ∃ (j : Nat) (A4 : Option Addr) (n4 c4 : Nat), v4 = .slice A4 n4 c4 ∧ v11 = .int .i64 (j : Int) ∧ j ≤ n ∧ n - j ≤ kx ∧ Aside (wr.ownsRow w.heap.size 52 3 (.slice A4 n4 c4) n4 (chV ((bs.take j).flatten.map norm))) ∧ Aside (Below w.heap.size w wr))
  case atStart => exact ⟨0, none, 0, 0, rfl, rfl, Nat.zero_le _, Nat.le_refl _, (World.ownsRow_nil _ _ _ _ : Aside _), (Below.refl _ _ : Aside _)⟩
  case round =>
    obtain ⟨j, A4, n4, c4, rfl, rfl, hjn, hkx, HO, HB⟩ := hrel
    have hn4 : n4 = (bs.take j).flatten.length := by have := (own_hc HO.out).1.1; rw [List.length_map] at this; exact this.symm
    have hle := flat_take_le bs j
    by_cases hlt : j < n
    · have hltz : (j : Int) < (n : Int) := by omega
      have hjb : j < bs.length := by have := HN.out; omega
      obtain ⟨b, Af, mf, cf, rfl, hc0, hh0, hbl⟩ := HF.out.at (by rw [List.length_map]; exact HN.out) (j := j) (by rw [List.length_map]; exact hjb)
      rw [List.getElem_map] at hh0
      have hc1 := (HB.out.cell (p := ⟨b, j, none⟩) hbl).trans hc0
      have hsb := HS.out _ (List.getElem_mem hjb)
      have hvb := HV.out _ (List.getElem_mem hjb)
      have hft := flat_take bs j hjb
      have hfl := flat_take_le bs (j + 1)
      generalize bs[j] = bt at *
      have hmf := hh0.1
      have HG := Lib.hid (changesOf_bat Af mf cf bt wr (hh0.below HB.out) (by omega) hvb)
      have hft' : ((bs.take (j + 1)).flatten).map norm = (bs.take j).flatten.map norm ++ bt.map norm := by rw [hft, List.map_append]
      have HFT := Lib.hid hft'
      have hbt : n4 + bt.length ≤ 1099511627776 := by rw [hft, List.length_append] at hfl; omega
      have pj : (0 : Int) ≤ (j : Int) := by omega
      clear hc0 hh0 hsb hvb hft hfl hft' hmf hn4
      go_wp2_with (first
        | (go_at_call 47; refine HG.out.mono ?_; rintro e w2 ⟨q, rfl, ho2, hb2⟩; have HC2 := Lib.hid (own_hc ho2); have HO2 := Lib.hid (own_below52 HO.out hb2); have HB2 := Lib.hid (HB.out.trans (hb2.mono HB.out.size)); clear ho2 hb2)
        | (at_builtin; (with_reducible refine wpList_append_hc rfl (.tmp 22) (.tmp 23) rfl w.heap.size (.slice A4 n4 c4) n4 ((bs.take j).flatten.map norm) rfl HO2.out (some ⟨q, 0, none⟩) bt.length bt.length (bt.map norm) rfl HC2.out.1 (fun e => by cases e) (by omega) HB2.out.size ?_); intro A6 c6 w3 hown3 hgrow3; have HO3 := Lib.hid hown3; have HB3 := Lib.hid (HB2.out.grown hgrow3 HB2.out.size (fun q hq => (HO2.out.lt q hq).1)); clear hown3 hgrow3))
      go_roundg (n - (j + 1))
      case measure => omega
      case rel => exact ⟨j + 1, A6, n4 + bt.length, c6, rfl, by go_num, by omega, Nat.le_refl _, (by rw [HFT.out]; exact HO3.out), (HB3.out : Aside _)⟩
    · obtain rfl : j = n := by omega
      have hltz : ¬ (j : Int) < (j : Int) := by omega
      have htk : bs.take j = bs := List.take_of_length_le (by rw [HN.out]; exact Nat.le_refl _)
      have ho := HO.out
      rw [htk] at ho hn4
      have HAF := Lib.hid (after_any none 0 0 [] A4 n4 c4 (bs.flatten.map norm) wr (HC.nil wr 0 (.inl rfl)) (fun _ => rfl) (own_hc ho).1 List.Pairwise.nil (by omega))
      clear ho htk hn4
      go_wp2_with (go_at_call 48; refine HAF.out.mono ?_; rintro e w2 ⟨A5, n5, c5, rfl, ho5, _, hb5⟩)
      go_ret2
      rw [allC_norm] at ho5
      exact ⟨A5, n5, c5, rfl, own_mono ho5 HB.out.size, HB.out.trans (hb5.mono HB.out.size)⟩
end Go.Proofs.Ytbfhlleipeipbaa

/- What is proved: the contract of store.openEmpty on a disk that is up. Conditions: those in each statement. -/
namespace Go.Proofs.Ytbfhlleipeipbaa
open Go.RowKit

theorem empty_ok (s : D) (hup : s.left ≠ 0) (hN : 4 ≤ s.last.length) (a : Nat) (ha : a ≤ 1) : s.openErr (frA s.last.length a : Nat) ((frA s.last.length a : Nat) + (hlf s.last.length : Nat)) 0 0 = 0 ∧ s.openFs (frA s.last.length a : Nat) 0 = [] := by
  have hf : frA s.last.length a + hlf s.last.length ≤ s.last.length := by
    unfold frA hlf
    rcases (show a = 0 ∨ a = 1 by omega) with rfl | rfl <;> omega
  have hsp : splitOf (s.area (((frA s.last.length a : Nat) : Int)).toNat ((0 : Int)).toNat) = some [] := by
    have : s.area (((frA s.last.length a : Nat) : Int)).toNat ((0 : Int)).toNat = [] := by unfold D.area; exact List.take_zero
    rw [this, splitOf_nil]
  constructor
  · unfold D.openErr
    rw [if_neg (by unfold D.badArea; omega), if_neg (by omega), if_neg hup, hsp, if_pos ⟨rfl, rfl⟩]
  · unfold D.openFs
    rw [hsp]; rfl
theorem openEmptyA (w0 w : World) (g : Nat) (s : D) (hm : Mine w0 w g s) (hup : s.left ≠ 0) (a : Nat) (ha : a ≤ 1) (hN : 4 ≤ s.last.length) (hbuf : s.buf.length ≤ 1099511627776) :
    Calls Try.prog 28 #[.pointer (some ⟨g, 0, none⟩), .int .i64 (a : Int), .int .i64 0, .int .i64 0] w fun e w' => ∃ j B C, e = .returned (.tuple #[.pointer (some ⟨j, 0, none⟩), .slice B 0 C, .int .i64 0]) ∧ Jn w' j g ((frA s.last.length a : Nat) * 64) (((frA s.last.length a : Nat) + (hlf s.last.length : Nat)) * 64) 0 0 ∧ Below w.heap.size w w' := by
  obtain ⟨h1, h2⟩ := empty_ok s hup hN a ha
  refine (openArea_any w0 w g s hm a ha hN 0 0 hbuf).mono ?_
  rintro e w' ⟨hp, _⟩
  obtain ⟨j, B, C, he, _, hj, _, hb⟩ := hp h1
  rw [h2] at he
  exact ⟨j, B, C, he, hj, hb⟩
theorem box10 {w : World} {g : Nat} {x0 x1 x2 x3 x4 x5 x6 x7 x8 x9 : Value} {t : TypeId} (h : w.heap[g]? = some (.cells #[x0, x1, x2, x3, x4, x5, x6, x7, x8, x9] t (0, 0))) : (w.cell? ⟨g, 0, none⟩ = some x0 ∧ w.cell? ⟨g, 1, none⟩ = some x1 ∧ w.cell? ⟨g, 2, none⟩ = some x2 ∧ w.cell? ⟨g, 3, none⟩ = some x3 ∧ w.cell? ⟨g, 4, none⟩ = some x4) ∧
    (w.cell? ⟨g, 5, none⟩ = some x5 ∧ w.cell? ⟨g, 6, none⟩ = some x6 ∧ w.cell? ⟨g, 7, none⟩ = some x7 ∧ w.cell? ⟨g, 8, none⟩ = some x8 ∧ w.cell? ⟨g, 9, none⟩ = some x9) ∧ ∀ j, w.frozen? ⟨g, j, none⟩ = false := by
  refine ⟨⟨?_, ?_, ?_, ?_, ?_⟩, ⟨?_, ?_, ?_, ?_, ?_⟩, fun j => by simp [World.frozen?, h]⟩
  · rw [cell_of_row w g 0 _ t (0, 0) h]; rfl
  · rw [cell_of_row w g 1 _ t (0, 0) h]; rfl
  · rw [cell_of_row w g 2 _ t (0, 0) h]; rfl
  · rw [cell_of_row w g 3 _ t (0, 0) h]; rfl
  · rw [cell_of_row w g 4 _ t (0, 0) h]; rfl
  · rw [cell_of_row w g 5 _ t (0, 0) h]; rfl
  · rw [cell_of_row w g 6 _ t (0, 0) h]; rfl
  · rw [cell_of_row w g 7 _ t (0, 0) h]; rfl
  · rw [cell_of_row w g 8 _ t (0, 0) h]; rfl
  · rw [cell_of_row w g 9 _ t (0, 0) h]; rfl
/-- openEmpty's variables -/
structure EmI (w : World) (C : Array Value) (W : World) : Prop where
  res : W.heap[w.heap.size]? = some (.cells #[.pointer none, .int .i64 0, .int .i64 0, .int .i64 0, .int .i64 0, .pointer none, .int .i64 0, .int .i64 0, .int .i64 0, .int .i64 0] 77 (0, 0))
  loc : W.heap[w.heap.size + 1]? = some (.cells C 77 (0, 0))
  bel : Below w.heap.size w W
theorem EmI.below {w W W' : World} {C : Array Value} (h : EmI w C W) (hb : Below W.heap.size W W') : EmI w C W' :=
  ⟨(hb.block _ (Array.getElem?_eq_some_iff.1 h.res).1).trans h.res, (hb.block _ (Array.getElem?_eq_some_iff.1 h.loc).1).trans h.loc, h.bel.trans (hb.mono h.bel.size)⟩
theorem EmI.set {w W : World} {C : Array Value} (h : EmI w C W) (o : Nat) (v : Value) : EmI w (C.setIfInBounds o v) (W.setCell ⟨w.heap.size + 1, o, none⟩ v) := by
  refine ⟨?_, heap_setCell_at h.loc o v, h.bel.setCell (by show w.heap.size ≤ w.heap.size + 1; omega) v⟩
  rw [Below.heap_setCell _ _ _ _ (by show w.heap.size ≠ w.heap.size + 1; omega)]
  exact h.res
theorem EmI.done {w W : World} {x0 x1 x2 x3 x4 x5 x6 x7 x8 x9 : Value} {C : Array Value} (h : EmI w C W) (W' : World) (hW : W' = (((((((((W.setCell ⟨w.heap.size, 0, none⟩ x0).setCell ⟨w.heap.size, 1, none⟩ x1).setCell ⟨w.heap.size, 2, none⟩ x2).setCell ⟨w.heap.size, 3, none⟩ x3).setCell ⟨w.heap.size, 4, none⟩ x4).setCell ⟨w.heap.size, 5, none⟩ x5).setCell ⟨w.heap.size, 6, none⟩ x6).setCell ⟨w.heap.size, 7, none⟩ x7).setCell ⟨w.heap.size, 8, none⟩ x8).setCell ⟨w.heap.size, 9, none⟩ x9) : W'.heap[w.heap.size]? = some (.cells #[x0, x1, x2, x3, x4, x5, x6, x7, x8, x9] 77 (0, 0)) ∧ Below w.heap.size w W' := by
  subst hW
  have h0 : (W.setCell ⟨w.heap.size, 0, none⟩ x0).heap[w.heap.size]? = some (.cells #[x0, .int .i64 0, .int .i64 0, .int .i64 0, .int .i64 0, .pointer none, .int .i64 0, .int .i64 0, .int .i64 0, .int .i64 0] 77 (0, 0)) := heap_setCell_at h.res 0 x0
  have h1 : ((W.setCell ⟨w.heap.size, 0, none⟩ x0).setCell ⟨w.heap.size, 1, none⟩ x1).heap[w.heap.size]? = some (.cells #[x0, x1, .int .i64 0, .int .i64 0, .int .i64 0, .pointer none, .int .i64 0, .int .i64 0, .int .i64 0, .int .i64 0] 77 (0, 0)) := heap_setCell_at h0 1 x1
  have h2 : (((W.setCell ⟨w.heap.size, 0, none⟩ x0).setCell ⟨w.heap.size, 1, none⟩ x1).setCell ⟨w.heap.size, 2, none⟩ x2).heap[w.heap.size]? = some (.cells #[x0, x1, x2, .int .i64 0, .int .i64 0, .pointer none, .int .i64 0, .int .i64 0, .int .i64 0, .int .i64 0] 77 (0, 0)) := heap_setCell_at h1 2 x2
  have h3 : ((((W.setCell ⟨w.heap.size, 0, none⟩ x0).setCell ⟨w.heap.size, 1, none⟩ x1).setCell ⟨w.heap.size, 2, none⟩ x2).setCell ⟨w.heap.size, 3, none⟩ x3).heap[w.heap.size]? = some (.cells #[x0, x1, x2, x3, .int .i64 0, .pointer none, .int .i64 0, .int .i64 0, .int .i64 0, .int .i64 0] 77 (0, 0)) := heap_setCell_at h2 3 x3
  have h4 : (((((W.setCell ⟨w.heap.size, 0, none⟩ x0).setCell ⟨w.heap.size, 1, none⟩ x1).setCell ⟨w.heap.size, 2, none⟩ x2).setCell ⟨w.heap.size, 3, none⟩ x3).setCell ⟨w.heap.size, 4, none⟩ x4).heap[w.heap.size]? = some (.cells #[x0, x1, x2, x3, x4, .pointer none, .int .i64 0, .int .i64 0, .int .i64 0, .int .i64 0] 77 (0, 0)) := heap_setCell_at h3 4 x4
  have h5 : ((((((W.setCell ⟨w.heap.size, 0, none⟩ x0).setCell ⟨w.heap.size, 1, none⟩ x1).setCell ⟨w.heap.size, 2, none⟩ x2).setCell ⟨w.heap.size, 3, none⟩ x3).setCell ⟨w.heap.size, 4, none⟩ x4).setCell ⟨w.heap.size, 5, none⟩ x5).heap[w.heap.size]? = some (.cells #[x0, x1, x2, x3, x4, x5, .int .i64 0, .int .i64 0, .int .i64 0, .int .i64 0] 77 (0, 0)) := heap_setCell_at h4 5 x5
  have h6 : (((((((W.setCell ⟨w.heap.size, 0, none⟩ x0).setCell ⟨w.heap.size, 1, none⟩ x1).setCell ⟨w.heap.size, 2, none⟩ x2).setCell ⟨w.heap.size, 3, none⟩ x3).setCell ⟨w.heap.size, 4, none⟩ x4).setCell ⟨w.heap.size, 5, none⟩ x5).setCell ⟨w.heap.size, 6, none⟩ x6).heap[w.heap.size]? = some (.cells #[x0, x1, x2, x3, x4, x5, x6, .int .i64 0, .int .i64 0, .int .i64 0] 77 (0, 0)) := heap_setCell_at h5 6 x6
  have h7 : ((((((((W.setCell ⟨w.heap.size, 0, none⟩ x0).setCell ⟨w.heap.size, 1, none⟩ x1).setCell ⟨w.heap.size, 2, none⟩ x2).setCell ⟨w.heap.size, 3, none⟩ x3).setCell ⟨w.heap.size, 4, none⟩ x4).setCell ⟨w.heap.size, 5, none⟩ x5).setCell ⟨w.heap.size, 6, none⟩ x6).setCell ⟨w.heap.size, 7, none⟩ x7).heap[w.heap.size]? = some (.cells #[x0, x1, x2, x3, x4, x5, x6, x7, .int .i64 0, .int .i64 0] 77 (0, 0)) := heap_setCell_at h6 7 x7
  have h8 : (((((((((W.setCell ⟨w.heap.size, 0, none⟩ x0).setCell ⟨w.heap.size, 1, none⟩ x1).setCell ⟨w.heap.size, 2, none⟩ x2).setCell ⟨w.heap.size, 3, none⟩ x3).setCell ⟨w.heap.size, 4, none⟩ x4).setCell ⟨w.heap.size, 5, none⟩ x5).setCell ⟨w.heap.size, 6, none⟩ x6).setCell ⟨w.heap.size, 7, none⟩ x7).setCell ⟨w.heap.size, 8, none⟩ x8).heap[w.heap.size]? = some (.cells #[x0, x1, x2, x3, x4, x5, x6, x7, x8, .int .i64 0] 77 (0, 0)) := heap_setCell_at h7 8 x8
  have h9 : ((((((((((W.setCell ⟨w.heap.size, 0, none⟩ x0).setCell ⟨w.heap.size, 1, none⟩ x1).setCell ⟨w.heap.size, 2, none⟩ x2).setCell ⟨w.heap.size, 3, none⟩ x3).setCell ⟨w.heap.size, 4, none⟩ x4).setCell ⟨w.heap.size, 5, none⟩ x5).setCell ⟨w.heap.size, 6, none⟩ x6).setCell ⟨w.heap.size, 7, none⟩ x7).setCell ⟨w.heap.size, 8, none⟩ x8).setCell ⟨w.heap.size, 9, none⟩ x9).heap[w.heap.size]? = some (.cells #[x0, x1, x2, x3, x4, x5, x6, x7, x8, x9] 77 (0, 0)) := heap_setCell_at h8 9 x9
  exact ⟨h9, ((((((((((h.bel.setCell (p := ⟨w.heap.size, 0, none⟩) (Nat.le_refl _) x0).setCell (p := ⟨w.heap.size, 1, none⟩) (Nat.le_refl _) x1).setCell (p := ⟨w.heap.size, 2, none⟩) (Nat.le_refl _) x2).setCell (p := ⟨w.heap.size, 3, none⟩) (Nat.le_refl _) x3).setCell (p := ⟨w.heap.size, 4, none⟩) (Nat.le_refl _) x4).setCell (p := ⟨w.heap.size, 5, none⟩) (Nat.le_refl _) x5).setCell (p := ⟨w.heap.size, 6, none⟩) (Nat.le_refl _) x6).setCell (p := ⟨w.heap.size, 7, none⟩) (Nat.le_refl _) x7).setCell (p := ⟨w.heap.size, 8, none⟩) (Nat.le_refl _) x8).setCell (p := ⟨w.heap.size, 9, none⟩) (Nat.le_refl _) x9)⟩
set_option maxRecDepth 100000 in
set_option maxHeartbeats 2000000 in
theorem openEmpty_any (w0 w : World) (g : Nat) (s : D) (hm : Mine w0 w g s) (hup : s.left ≠ 0) (hN : 4 ≤ s.last.length) (hbuf : s.buf.length ≤ 1099511627776) (f0 t0 f1 t1 : Int)
    (hf0 : f0 = (frA s.last.length 0 : Nat) * 64) (ht0 : t0 = ((frA s.last.length 0 : Nat) + (hlf s.last.length : Nat)) * 64) (hf1 : f1 = (frA s.last.length 1 : Nat) * 64) (ht1 : t1 = ((frA s.last.length 1 : Nat) + (hlf s.last.length : Nat)) * 64) :
    Calls Try.prog 30 #[.pointer (some ⟨g, 0, none⟩)] w fun e w' => e = .returned (.tuple #[.agg #[.pointer (some ⟨g, 0, none⟩), .int .i64 f0, .int .i64 t0, .int .i64 0, .int .i64 0, .pointer (some ⟨g, 0, none⟩), .int .i64 f1, .int .i64 t1, .int .i64 0, .int .i64 0], .int .i64 0]) ∧ Below w.heap.size w w' := by
  have HA0 := Lib.hid fun w' hm' => openEmptyA w0 w' g s hm' hup 0 (by omega) hN hbuf
  have HA1 := Lib.hid fun w' hm' => openEmptyA w0 w' g s hm' hup 1 (by omega) hN hbuf
  rw [← hf0, ← ht0] at HA0
  rw [← hf1, ← ht1] at HA1
  have HM := Lib.hid hm
  clear hm hf0 ht0 hf1 ht1
  have hi : EmI w #[.pointer none, .int .i64 0, .int .i64 0, .int .i64 0, .int .i64 0, .pointer none, .int .i64 0, .int .i64 0, .int .i64 0, .int .i64 0] ((w.alloc (.cells #[.pointer none, .int .i64 0, .int .i64 0, .int .i64 0, .int .i64 0, .pointer none, .int .i64 0, .int .i64 0, .int .i64 0, .int .i64 0] 77)).alloc (.cells #[.pointer none, .int .i64 0, .int .i64 0, .int .i64 0, .int .i64 0, .pointer none, .int .i64 0, .int .i64 0, .int .i64 0, .int .i64 0] 77)) := by
    refine ⟨?_, heap_at _ _ _ (by simp), ((Below.refl _ _).alloc (Nat.le_refl _) _).alloc (by simp) _⟩
    rw [Below.heap_alloc _ _ _ (by simp)]; exact heap_alloc_new w _
  have HI := Lib.hid hi
  clear hi
  go_enter Try.func30, Try.ntmps30
  go_wp2_with fail
  generalize (w.alloc (.cells #[.pointer none, .int .i64 0, .int .i64 0, .int .i64 0, .int .i64 0, .pointer none, .int .i64 0, .int .i64 0, .int .i64 0, .int .i64 0] 77)).alloc (.cells #[.pointer none, .int .i64 0, .int .i64 0, .int .i64 0, .int .i64 0, .pointer none, .int .i64 0, .int .i64 0, .int .i64 0, .int .i64 0] 77) = W at *
  go_loopg [5, 6, 7, 8, 9] 2 (fun kx _ _ _ _ v9 wr => ∃ (j : Nat), v9 = .int .i64 (j : Int) ∧ j ≤ 2 ∧ 2 - j ≤ kx ∧ (j = 0 → Aside (EmI w #[.pointer none, .int .i64 0, .int .i64 0, .int .i64 0, .int .i64 0, .pointer none, .int .i64 0, .int .i64 0, .int .i64 0, .int .i64 0] wr)) ∧ (j = 1 → Aside (EmI w #[.pointer (some ⟨g, 0, none⟩), .int .i64 f0, .int .i64 t0, .int .i64 0, .int .i64 0, .pointer none, .int .i64 0, .int .i64 0, .int .i64 0, .int .i64 0] wr)) ∧ (j = 2 → Aside (EmI w #[.pointer (some ⟨g, 0, none⟩), .int .i64 f0, .int .i64 t0, .int .i64 0, .int .i64 0, .pointer (some ⟨g, 0, none⟩), .int .i64 f1, .int .i64 t1, .int .i64 0, .int .i64 0] wr)))
  case atStart => exact ⟨0, rfl, by omega, by omega, (fun _ => (HI.out : Aside _)), (fun h => by omega), (fun h => by omega)⟩
  case round =>
    clear HI
    obtain ⟨j, rfl, hj2, hkx, g0, g1, g2⟩ := hrel
    rcases (show j = 0 ∨ j = 1 ∨ j = 2 by omega) with rfl | rfl | rfl
    · have HI := Lib.hid (g0 rfl).out
      clear g0 g1 g2
      have HC := Lib.hid (HA0.out wr (HM.out.below HI.out.bel))
      go_wp2_with fail
      refine HC.out.mono ?_
      rintro e w1 ⟨jb, B, C, rfl, hj, hb1⟩
      have hi1 := HI.out.below hb1
      obtain ⟨a0, a1, a2, a3, a4, _⟩ := jn_cells hj
      obtain ⟨⟨c0, c1, c2, c3, c4⟩, ⟨c5, c6, c7, c8, c9⟩, ff⟩ := box10 hi1.loc
      have hset := (((((hi1.set 0 (.pointer (some ⟨g, 0, none⟩))).set 1 (.int .i64 f0)).set 2 (.int .i64 t0)).set 3 (.int .i64 0)).set 4 (.int .i64 0))
      have HS := Lib.hid hset
      have ff0 := ff 0
      have ff1 := ff 1
      have ff2 := ff 2
      have ff3 := ff 3
      have ff4 := ff 4
      clear ff hset hi1 hj hb1 HI HC
      go_wp2_with fail
      go_roundg (2 - 1)
      case measure => omega
      case rel => exact ⟨1, rfl, by omega, Nat.le_refl _, (fun h => by omega), (fun _ => (HS.out : Aside _)), (fun h => by omega)⟩
    · have HI := Lib.hid (g1 rfl).out
      clear g0 g1 g2
      have HC := Lib.hid (HA1.out wr (HM.out.below HI.out.bel))
      go_wp2_with fail
      refine HC.out.mono ?_
      rintro e w1 ⟨jb, B, C, rfl, hj, hb1⟩
      have hi1 := HI.out.below hb1
      obtain ⟨a0, a1, a2, a3, a4, _⟩ := jn_cells hj
      obtain ⟨⟨c0, c1, c2, c3, c4⟩, ⟨c5, c6, c7, c8, c9⟩, ff⟩ := box10 hi1.loc
      have hset := (((((hi1.set 5 (.pointer (some ⟨g, 0, none⟩))).set 6 (.int .i64 f1)).set 7 (.int .i64 t1)).set 8 (.int .i64 0)).set 9 (.int .i64 0))
      have HS := Lib.hid hset
      have ff5 := ff 5
      have ff6 := ff 6
      have ff7 := ff 7
      have ff8 := ff 8
      have ff9 := ff 9
      clear ff hset hi1 hj hb1 HI HC
      go_wp2_with fail
      go_roundg (2 - 2)
      case measure => omega
      case rel => exact ⟨2, rfl, by omega, Nat.le_refl _, (fun h => by omega), (fun h => by omega), (fun _ => (HS.out : Aside _))⟩
    · have HI := Lib.hid (g2 rfl).out
      clear g0 g1 g2
      obtain ⟨⟨c0, c1, c2, c3, c4⟩, ⟨c5, c6, c7, c8, c9⟩, _⟩ := box10 HI.out.loc
      obtain ⟨⟨r0, r1, r2, r3, r4⟩, ⟨r5, r6, r7, r8, r9⟩, ff⟩ := box10 HI.out.res
      have ff0 := ff 0
      have ff1 := ff 1
      have ff2 := ff 2
      have ff3 := ff 3
      have ff4 := ff 4
      have ff5 := ff 5
      have ff6 := ff 6
      have ff7 := ff 7
      have ff8 := ff 8
      have ff9 := ff 9
      obtain ⟨hq, hbq⟩ := HI.out.done (x0 := .pointer (some ⟨g, 0, none⟩)) (x1 := .int .i64 f0) (x2 := .int .i64 t0) (x3 := .int .i64 0) (x4 := .int .i64 0) (x5 := .pointer (some ⟨g, 0, none⟩)) (x6 := .int .i64 f1) (x7 := .int .i64 t1) (x8 := .int .i64 0) (x9 := .int .i64 0) _ rfl
      obtain ⟨⟨q0, q1, q2, q3, q4⟩, ⟨q5, q6, q7, q8, q9⟩, _⟩ := box10 hq
      have HBQ := Lib.hid hbq
      have HQ0 := Lib.hid q0
      have HQ1 := Lib.hid q1
      have HQ2 := Lib.hid q2
      have HQ3 := Lib.hid q3
      have HQ4 := Lib.hid q4
      have HQ5 := Lib.hid q5
      have HQ6 := Lib.hid q6
      have HQ7 := Lib.hid q7
      have HQ8 := Lib.hid q8
      have HQ9 := Lib.hid q9
      clear ff hq hbq q0 q1 q2 q3 q4 q5 q6 q7 q8 q9
      go_wp2_with fail
      exact bodyPost_ret (v := .tuple #[.agg #[.pointer (some ⟨g, 0, none⟩), .int .i64 f0, .int .i64 t0, .int .i64 0, .int .i64 0, .pointer (some ⟨g, 0, none⟩), .int .i64 f1, .int .i64 t1, .int .i64 0, .int .i64 0], .int .i64 0]) (by simp [results, Try.results30, go_sem, HQ0.out, HQ1.out, HQ2.out, HQ3.out, HQ4.out, HQ5.out, HQ6.out, HQ7.out, HQ8.out, HQ9.out]) rfl ⟨rfl, HBQ.out⟩
end Go.Proofs.Ytbfhlleipeipbaa

/- What is proved: the contract of store.Open on a disk that is up, not armed, and holds a store. Conditions: those in each statement. -/
namespace Go.Proofs.Ytbfhlleipeipbaa
open Go.RowKit

/-- a store in memory -/
def StB (w : World) (sb cb g n a : Nat) (e c : Int) (pv : Value) (st : Bool) : Prop :=
  w.heap[sb]? = some (.cells #[.pointer (some ⟨g, 0, none⟩), .pointer (some ⟨cb, 0, none⟩), .pointer (some ⟨g, 0, none⟩), .int .i64 ((frA n a : Nat) * 64), .int .i64 (((frA n a : Nat) + (hlf n : Nat)) * 64), .int .i64 e, .int .i64 c,
    .pointer (some ⟨g, 0, none⟩), .int .i64 ((frA n 0 : Nat) * 64), .int .i64 (((frA n 0 : Nat) + (hlf n : Nat)) * 64), .int .i64 0, .int .i64 0, .pointer (some ⟨g, 0, none⟩), .int .i64 ((frA n 1 : Nat) * 64), .int .i64 (((frA n 1 : Nat) + (hlf n : Nat)) * 64), .int .i64 0, .int .i64 0, pv, .bool st] 82 (0, 0))
/-- a store as plain data: its disk, its cell (which tells area, end and count), its pairs, and whether the disk went down within one of its calls -/
structure SS where
  d : D
  h : H4
  P : List Cg
  st : Bool
structure SMem (w0 w : World) (sb cb g : Nat) (x : SS) : Prop where
  m : Mine w0 w g x.d
  cl : Cl w cb g 0 x.h
  ex : ∃ A n c, StB w sb cb g x.d.last.length x.h.a.toNat x.h.e x.h.c (.slice A n c) x.st ∧ w.ownsRow w0.heap.size 52 3 (.slice A n c) n (chV x.P)
  lo : w0.heap.size ≤ sb ∧ w0.heap.size ≤ cb
/-- what Open asks of a disk -/
structure OpOk (s : D) (a : Nat) (bs : List (List Cg)) : Prop where
  ar : (openH s).a = (a : Int)
  a1 : a ≤ 1
  er : s.openErr (frA s.last.length a : Nat) ((frA s.last.length a : Nat) + (hlf s.last.length : Nat)) (openH s).e (openH s).c = 0
  fs : s.openFs (frA s.last.length a : Nat) (openH s).e = bs.map batB
  hs : ∀ b ∈ bs, (batB b).length ≤ 549755813888
  hv : ∀ b ∈ bs, ∀ x ∈ b, x.key.size + x.val.size ≤ 274877906944
  ht : bs.flatten.length ≤ 1099511627776
  hn : bs.length ≤ 1099511627776
theorem own_othersD {W W' : World} {B n : Nat} {v : Value} {xs : List Value} (h : W.ownsRow B 52 3 v n xs) (ho : OthersD W W') : W'.ownsRow B 52 3 v n xs := by
  refine ⟨h.1, ?_⟩
  rcases h.2 with h0 | ⟨q, cap, cur, hv, hb, hg, r⟩
  · exact .inl h0
  · exact .inr ⟨q, cap, cur, hv, hb, ho.2 q cur 52 (0, 0) hg (by decide) (by decide) (by decide), r⟩
def OpenedPost (w0 w : World) (g : Nat) (x : SS) (e : Ending) (w' : World) : Prop :=
  ∃ sb cb, e = .returned (.tuple #[.pointer (some ⟨sb, 0, none⟩), .int .i64 0]) ∧ SMem w0 w' sb cb g x ∧ OthersD w w' ∧ w.heap.size ≤ sb

set_option maxRecDepth 100000 in
set_option maxHeartbeats 4000000 in
theorem open_0 (w0 w : World) (g : Nat) (s : D) (hm : Mine w0 w g s) (hup : s.left < 0) (hN : 4 ≤ s.last.length) (hbuf : s.buf.length ≤ 1099511627776) (bs : List (List Cg)) (ok : OpOk s 0 bs) :
    Calls Try.prog 9 #[.pointer (some ⟨g, 0, none⟩)] w (OpenedPost w0 w g ⟨mend s, openH s, allC [] bs.flatten, false⟩) := by
  obtain ⟨L, q, hd, _, _⟩ := id hm
  have HSZ := Lib.hid (size_any w g L q s hd)
  have hne : s.left ≠ 0 := by omega
  have hco := copen_any w0 w g s hm hne (by omega) hbuf
  have HM := Lib.hid hm
  have HOK := Lib.hid ok
  have hmost := hm.ok.most
  have hw0 := hm.b.size
  have hml := (mendP_ok s hup (by omega) 2 (by omega)).2.1
  have HML := Lib.hid hml
  obtain ⟨⟨t, aa, e, c⟩, hH⟩ : ∃ h, h = openH s := ⟨_, rfl⟩
  have hA : aa = 0 := by have := ok.ar; rw [← hH] at this; exact this
  subst hA
  have hoa : ∀ w', Mine w0 w' g s → Calls Try.prog 28 #[.pointer (some ⟨g, 0, none⟩), .int .i64 0, .int .i64 e, .int .i64 c] w' (OpenPost w' g s (frA s.last.length 0 : Nat) ((frA s.last.length 0 : Nat) + (hlf s.last.length : Nat)) e c) := fun w' hm' => openArea_any w0 w' g s hm' 0 (by omega) hN e c hbuf
  have her := ok.er
  have hfr := ok.fs
  rw [← hH] at hco her hfr
  have hop : ∀ w', Mine w0 w' g s → Calls Try.prog 28 #[.pointer (some ⟨g, 0, none⟩), .int .i64 0, .int .i64 e, .int .i64 c] w' fun en w2 => ∃ j B C, en = .returned (.tuple #[.pointer (some ⟨j, 0, none⟩), .slice B bs.length C, .int .i64 0]) ∧ w'.heap.size ≤ j ∧ Jn w2 j g ((frA s.last.length 0 : Nat) * 64) (((frA s.last.length 0 : Nat) + (hlf s.last.length : Nat)) * 64) e c ∧ Frames w'.heap.size w2 (bs.map batB) (.slice B bs.length C) ∧ Below w'.heap.size w' w2 := by
    intro w' hm'
    refine (hoa w' hm').mono ?_
    rintro en w2 ⟨hp, _⟩
    obtain ⟨j, B, C, h1, h2, h3, h4, h5⟩ := hp her
    rw [hfr, List.length_map] at h1 h4
    exact ⟨j, B, C, h1, h2, h3, h4, h5⟩
  have HOA := Lib.hid hop
  have HRP := Lib.hid fun w' B C base hf => replay_any w' B bs.length C base bs hf rfl ok.hs ok.hv ok.ht ok.hn
  have HEM := Lib.hid fun w' (hm' : Mine w0 w' g s) => openEmpty_any w0 w' g s hm' hne hN hbuf _ _ _ _ rfl rfl rfl rfl
  have HME := Lib.hid fun w' (hm' : Mine w0 w' g s) => mendCell_any w0 w' g s hm' hup (by omega) hbuf
  have HCO := Lib.hid hco
  have HHH := Lib.hid hH
  have hbn := ok.hn
  clear hd hm ok hH hop hoa her hfr hco hml
  go_enter Try.func9, Try.ntmps9
  go_wp2_with (go_at_call 25; refine HSZ.out.mono ?_; rintro e1 w1 ⟨rfl, hw1⟩; obtain rfl : w = w1 := hw1.symm)
  refine HCO.out.mono ?_
  rintro e1 w2 ⟨cb, rfl, hcb, hcl, hb2⟩
  have HCG := Lib.hid (cget_any w2 cb g 0 _ hcl)
  have HCL := Lib.hid hcl
  have HB2 := Lib.hid hb2
  clear hcl hb2 HCO HSZ
  simp only at HCG
  go_wp2_with (first
    | (go_at_call 27; refine HCG.out.mono ?_; rintro e3 w3 ⟨rfl, hb3⟩; have HB3 := Lib.hid hb3; clear hb3))
  have hal : Below w3.heap.size w3 (w3.alloc (.cells #[.int .i64 0, .int .i64 e, .int .i64 c] 65)) := (Below.refl _ _).alloc (Nat.le_refl _) _
  have HB4 := Lib.hid ((HB2.out.trans (HB3.out.mono HB2.out.size)).trans (hal.mono (Nat.le_trans HB2.out.size HB3.out.size)))
  have HCL4 := Lib.hid ((HCL.out.below HB3.out).below hal)
  clear hal HB2 HB3 HCL HCG
  generalize w3.alloc (.cells #[.int .i64 0, .int .i64 e, .int .i64 c] 65) = w4 at *
  refine (HOA.out w4 (HM.out.below HB4.out)).mono ?_
  rintro e5 w5 ⟨j, B, C, rfl, hj4, hj5, hf5, hb5⟩
  have HJ5 := Lib.hid hj5
  have HB5 := Lib.hid (HB4.out.trans (hb5.mono HB4.out.size))
  have HCL5 := Lib.hid (HCL4.out.below hb5)
  have HR5 := Lib.hid (HRP.out w5 B C _ hf5)
  have hj0 : w.heap.size ≤ j := Nat.le_trans HB4.out.size hj4
  clear hj5 hf5 hb5 hj4 HB4 HCL4 HOA HRP
  go_wp2_with (go_at_call 29; refine HR5.out.mono ?_; rintro e6 w6 ⟨A6, n6, c6, rfl, ho6, hb6⟩; have HO6 := Lib.hid (own_mono ho6 HB5.out.size); have HJ6 := Lib.hid (HJ5.out.below hb6); have HB6 := Lib.hid (HB5.out.trans (hb6.mono HB5.out.size)); have HCL6 := Lib.hid (HCL5.out.below hb6); clear ho6 hb6 HR5 HJ5 HB5 HCL5)
  refine (HEM.out w6 (HM.out.below HB6.out)).mono ?_
  rintro e7 w7 ⟨rfl, hb7⟩
  have HO7 := Lib.hid (own_belowG HO6.out hb7)
  have HJ7 := Lib.hid (HJ6.out.below hb7)
  have HB7 := Lib.hid (HB6.out.trans (hb7.mono HB6.out.size))
  have HCL7 := Lib.hid (HCL6.out.below hb7)
  clear hb7 HO6 HJ6 HB6 HCL6 HEM
  go_wp2_with fail
  obtain ⟨F0, hF0⟩ : ∃ x : Int, x = (frA s.last.length 0 : Nat) * 64 := ⟨_, rfl⟩
  obtain ⟨T0, hT0⟩ : ∃ x : Int, x = ((frA s.last.length 0 : Nat) + (hlf s.last.length : Nat)) * 64 := ⟨_, rfl⟩
  obtain ⟨F1, hF1⟩ : ∃ x : Int, x = (frA s.last.length 1 : Nat) * 64 := ⟨_, rfl⟩
  obtain ⟨T1, hT1⟩ : ∃ x : Int, x = ((frA s.last.length 1 : Nat) + (hlf s.last.length : Nat)) * 64 := ⟨_, rfl⟩
  rw [← hF0, ← hT0] at HJ7
  rw [← hF0, ← hT0, ← hF1, ← hT1]
  have HFT := Lib.hid (And.intro (And.intro hF0 hT0) (And.intro hF1 hT1))
  clear hF0 hT0 hF1 hT1
  have hal8 : Below w7.heap.size w7 (w7.alloc (.cells #[.pointer (some ⟨g, 0, none⟩), .int .i64 F0, .int .i64 T0, .int .i64 0, .int .i64 0, .pointer (some ⟨g, 0, none⟩), .int .i64 F1, .int .i64 T1, .int .i64 0, .int .i64 0] 77)) := (Below.refl _ _).alloc (Nat.le_refl _) _
  have hbx8 : (w7.alloc (.cells #[.pointer (some ⟨g, 0, none⟩), .int .i64 F0, .int .i64 T0, .int .i64 0, .int .i64 0, .pointer (some ⟨g, 0, none⟩), .int .i64 F1, .int .i64 T1, .int .i64 0, .int .i64 0] 77)).heap[w7.heap.size]? = some (.cells #[.pointer (some ⟨g, 0, none⟩), .int .i64 F0, .int .i64 T0, .int .i64 0, .int .i64 0, .pointer (some ⟨g, 0, none⟩), .int .i64 F1, .int .i64 T1, .int .i64 0, .int .i64 0] 77 (0, 0)) := heap_alloc_new w7 _
  have HO8 := Lib.hid (own_belowG HO7.out hal8)
  have HJ8 := Lib.hid (HJ7.out.below hal8)
  have HB8 := Lib.hid (HB7.out.trans (hal8.mono HB7.out.size))
  have HCL8 := Lib.hid (HCL7.out.below hal8)
  have HX8 := Lib.hid hbx8
  have h70 := HB7.out.size
  clear hal8 hbx8 HO7 HJ7 HB7 HCL7
  generalize w7.alloc (.cells #[.pointer (some ⟨g, 0, none⟩), .int .i64 F0, .int .i64 T0, .int .i64 0, .int .i64 0, .pointer (some ⟨g, 0, none⟩), .int .i64 F1, .int .i64 T1, .int .i64 0, .int .i64 0] 77) = w8 at *
  generalize w7.heap.size = bx at *
  refine (HME.out w8 (HM.out.below HB8.out)).mono ?_
  rintro e9 w9 ⟨rfl, hm9, ho9⟩
  have hj9 : Jn w9 j g F0 T0 e c := ho9.2 j _ 76 (0, 0) HJ8.out (by decide) (by decide) (by decide)
  have hc9 : Cl w9 cb g 0 _ := ho9.2 cb _ 101 (0, 0) HCL8.out (by decide) (by decide) (by decide)
  have hx9 := ho9.2 bx _ 77 (0, 0) HX8.out (by decide) (by decide) (by decide)
  have HO9 := Lib.hid (own_othersD HO8.out ho9)
  have HOT := Lib.hid ((OthersD.below HB8.out).trans ho9)
  have HM9 := Lib.hid hm9
  have HC9 := Lib.hid hc9
  have HJ9 := Lib.hid hj9
  have HX9 := Lib.hid hx9
  clear hm9 ho9 hj9 hc9 hx9 HO8 HJ8 HB8 HCL8 HX8 HME HM
  go_wp2_with fail
  obtain ⟨V, hV⟩ : ∃ V, V = w9.drew := ⟨_, rfl⟩
  have hbV : Below w9.heap.size w9 V := by rw [hV]; exact (Below.refl _ _).drew
  have HJV := Lib.hid (HJ9.out.below hbV)
  have HXV := Lib.hid ((hbV.block bx (Array.getElem?_eq_some_iff.1 HX9.out).1).trans HX9.out)
  refine wp_region_tail 9 V hV (by kernel_rfl) (by kernel_rfl) ?_
  simp only [List.take_succ_cons, List.take_zero, List.drop_succ_cons, List.drop_zero]
  have HBV := Lib.hid hbV
  clear hV hbV
  obtain ⟨j0, j1, j2, j3, j4, _⟩ := jn_cells HJV.out
  obtain ⟨⟨c0, c1, c2, c3, c4⟩, ⟨c5, c6', c7, c8, c9⟩, _⟩ := box10 HXV.out
  iterate 9 still_step
  refine wpStill_nil ?_
  go_wp2_with fail
  go_ret2
  have hbA : Below w9.heap.size w9 (V.alloc (.cells #[.pointer (some ⟨g, 0, none⟩), .pointer (some ⟨cb, 0, none⟩), .pointer (some ⟨g, 0, none⟩), .int .i64 F0, .int .i64 T0, .int .i64 e, .int .i64 c, .pointer (some ⟨g, 0, none⟩), .int .i64 F0, .int .i64 T0, .int .i64 0, .int .i64 0, .pointer (some ⟨g, 0, none⟩), .int .i64 F1, .int .i64 T1, .int .i64 0, .int .i64 0, .slice A6 n6 c6, .bool false] 82)) := HBV.out.alloc HBV.out.size _
  have hh := HHH.out
  obtain ⟨⟨hF0, hT0⟩, hF1, hT1⟩ := HFT.out
  refine ⟨V.heap.size, cb, rfl, ⟨HM9.out.below hbA, ?_, ⟨A6, n6, c6, ?_, own_mono (own_belowG HO9.out hbA) hw0⟩, ?_, ?_⟩, HOT.out.trans (OthersD.below hbA), ?_⟩
  · rw [← hh]; exact HC9.out.below hbA
  · show StB _ _ _ _ (mend s).last.length (openH s).a.toNat (openH s).e (openH s).c _ _
    unfold StB mend
    rw [← hh, HML.out, show (({ t := t, a := 0, e := e, c := c } : H4).a.toNat) = 0 from rfl, ← hF0, ← hT0, ← hF1, ← hT1]
    exact heap_alloc_new V _
  · have := HOT.out.1; have := HBV.out.size; omega
  · omega
  · have := HOT.out.1; have := HBV.out.size; omega
set_option maxRecDepth 100000 in
set_option maxHeartbeats 4000000 in
theorem open_1 (w0 w : World) (g : Nat) (s : D) (hm : Mine w0 w g s) (hup : s.left < 0) (hN : 4 ≤ s.last.length) (hbuf : s.buf.length ≤ 1099511627776) (bs : List (List Cg)) (ok : OpOk s 1 bs) :
    Calls Try.prog 9 #[.pointer (some ⟨g, 0, none⟩)] w (OpenedPost w0 w g ⟨mend s, openH s, allC [] bs.flatten, false⟩) := by
  obtain ⟨L, q, hd, _, _⟩ := id hm
  have HSZ := Lib.hid (size_any w g L q s hd)
  have hne : s.left ≠ 0 := by omega
  have hco := copen_any w0 w g s hm hne (by omega) hbuf
  have HM := Lib.hid hm
  have HOK := Lib.hid ok
  have hmost := hm.ok.most
  have hw0 := hm.b.size
  have hml := (mendP_ok s hup (by omega) 2 (by omega)).2.1
  have HML := Lib.hid hml
  obtain ⟨⟨t, aa, e, c⟩, hH⟩ : ∃ h, h = openH s := ⟨_, rfl⟩
  have hA : aa = 1 := by have := ok.ar; rw [← hH] at this; exact this
  subst hA
  have hoa : ∀ w', Mine w0 w' g s → Calls Try.prog 28 #[.pointer (some ⟨g, 0, none⟩), .int .i64 1, .int .i64 e, .int .i64 c] w' (OpenPost w' g s (frA s.last.length 1 : Nat) ((frA s.last.length 1 : Nat) + (hlf s.last.length : Nat)) e c) := fun w' hm' => openArea_any w0 w' g s hm' 1 (by omega) hN e c hbuf
  have her := ok.er
  have hfr := ok.fs
  rw [← hH] at hco her hfr
  have hop : ∀ w', Mine w0 w' g s → Calls Try.prog 28 #[.pointer (some ⟨g, 0, none⟩), .int .i64 1, .int .i64 e, .int .i64 c] w' fun en w2 => ∃ j B C, en = .returned (.tuple #[.pointer (some ⟨j, 0, none⟩), .slice B bs.length C, .int .i64 0]) ∧ w'.heap.size ≤ j ∧ Jn w2 j g ((frA s.last.length 1 : Nat) * 64) (((frA s.last.length 1 : Nat) + (hlf s.last.length : Nat)) * 64) e c ∧ Frames w'.heap.size w2 (bs.map batB) (.slice B bs.length C) ∧ Below w'.heap.size w' w2 := by
    intro w' hm'
    refine (hoa w' hm').mono ?_
    rintro en w2 ⟨hp, _⟩
    obtain ⟨j, B, C, h1, h2, h3, h4, h5⟩ := hp her
    rw [hfr, List.length_map] at h1 h4
    exact ⟨j, B, C, h1, h2, h3, h4, h5⟩
  have HOA := Lib.hid hop
  have HRP := Lib.hid fun w' B C base hf => replay_any w' B bs.length C base bs hf rfl ok.hs ok.hv ok.ht ok.hn
  have HEM := Lib.hid fun w' (hm' : Mine w0 w' g s) => openEmpty_any w0 w' g s hm' hne hN hbuf _ _ _ _ rfl rfl rfl rfl
  have HME := Lib.hid fun w' (hm' : Mine w0 w' g s) => mendCell_any w0 w' g s hm' hup (by omega) hbuf
  have HCO := Lib.hid hco
  have HHH := Lib.hid hH
  have hbn := ok.hn
  clear hd hm ok hH hop hoa her hfr hco hml
  go_enter Try.func9, Try.ntmps9
  go_wp2_with (go_at_call 25; refine HSZ.out.mono ?_; rintro e1 w1 ⟨rfl, hw1⟩; obtain rfl : w = w1 := hw1.symm)
  refine HCO.out.mono ?_
  rintro e1 w2 ⟨cb, rfl, hcb, hcl, hb2⟩
  have HCG := Lib.hid (cget_any w2 cb g 0 _ hcl)
  have HCL := Lib.hid hcl
  have HB2 := Lib.hid hb2
  clear hcl hb2 HCO HSZ
  simp only at HCG
  go_wp2_with (first
    | (go_at_call 27; refine HCG.out.mono ?_; rintro e3 w3 ⟨rfl, hb3⟩; have HB3 := Lib.hid hb3; clear hb3))
  have hal : Below w3.heap.size w3 (w3.alloc (.cells #[.int .i64 1, .int .i64 e, .int .i64 c] 65)) := (Below.refl _ _).alloc (Nat.le_refl _) _
  have HB4 := Lib.hid ((HB2.out.trans (HB3.out.mono HB2.out.size)).trans (hal.mono (Nat.le_trans HB2.out.size HB3.out.size)))
  have HCL4 := Lib.hid ((HCL.out.below HB3.out).below hal)
  clear hal HB2 HB3 HCL HCG
  generalize w3.alloc (.cells #[.int .i64 1, .int .i64 e, .int .i64 c] 65) = w4 at *
  refine (HOA.out w4 (HM.out.below HB4.out)).mono ?_
  rintro e5 w5 ⟨j, B, C, rfl, hj4, hj5, hf5, hb5⟩
  have HJ5 := Lib.hid hj5
  have HB5 := Lib.hid (HB4.out.trans (hb5.mono HB4.out.size))
  have HCL5 := Lib.hid (HCL4.out.below hb5)
  have HR5 := Lib.hid (HRP.out w5 B C _ hf5)
  have hj0 : w.heap.size ≤ j := Nat.le_trans HB4.out.size hj4
  clear hj5 hf5 hb5 hj4 HB4 HCL4 HOA HRP
  go_wp2_with (go_at_call 29; refine HR5.out.mono ?_; rintro e6 w6 ⟨A6, n6, c6, rfl, ho6, hb6⟩; have HO6 := Lib.hid (own_mono ho6 HB5.out.size); have HJ6 := Lib.hid (HJ5.out.below hb6); have HB6 := Lib.hid (HB5.out.trans (hb6.mono HB5.out.size)); have HCL6 := Lib.hid (HCL5.out.below hb6); clear ho6 hb6 HR5 HJ5 HB5 HCL5)
  refine (HEM.out w6 (HM.out.below HB6.out)).mono ?_
  rintro e7 w7 ⟨rfl, hb7⟩
  have HO7 := Lib.hid (own_belowG HO6.out hb7)
  have HJ7 := Lib.hid (HJ6.out.below hb7)
  have HB7 := Lib.hid (HB6.out.trans (hb7.mono HB6.out.size))
  have HCL7 := Lib.hid (HCL6.out.below hb7)
  clear hb7 HO6 HJ6 HB6 HCL6 HEM
  go_wp2_with fail
  obtain ⟨F0, hF0⟩ : ∃ x : Int, x = (frA s.last.length 0 : Nat) * 64 := ⟨_, rfl⟩
  obtain ⟨T0, hT0⟩ : ∃ x : Int, x = ((frA s.last.length 0 : Nat) + (hlf s.last.length : Nat)) * 64 := ⟨_, rfl⟩
  obtain ⟨F1, hF1⟩ : ∃ x : Int, x = (frA s.last.length 1 : Nat) * 64 := ⟨_, rfl⟩
  obtain ⟨T1, hT1⟩ : ∃ x : Int, x = ((frA s.last.length 1 : Nat) + (hlf s.last.length : Nat)) * 64 := ⟨_, rfl⟩
  rw [← hF1, ← hT1] at HJ7
  rw [← hF0, ← hT0, ← hF1, ← hT1]
  have HFT := Lib.hid (And.intro (And.intro hF0 hT0) (And.intro hF1 hT1))
  clear hF0 hT0 hF1 hT1
  have hal8 : Below w7.heap.size w7 (w7.alloc (.cells #[.pointer (some ⟨g, 0, none⟩), .int .i64 F0, .int .i64 T0, .int .i64 0, .int .i64 0, .pointer (some ⟨g, 0, none⟩), .int .i64 F1, .int .i64 T1, .int .i64 0, .int .i64 0] 77)) := (Below.refl _ _).alloc (Nat.le_refl _) _
  have hbx8 : (w7.alloc (.cells #[.pointer (some ⟨g, 0, none⟩), .int .i64 F0, .int .i64 T0, .int .i64 0, .int .i64 0, .pointer (some ⟨g, 0, none⟩), .int .i64 F1, .int .i64 T1, .int .i64 0, .int .i64 0] 77)).heap[w7.heap.size]? = some (.cells #[.pointer (some ⟨g, 0, none⟩), .int .i64 F0, .int .i64 T0, .int .i64 0, .int .i64 0, .pointer (some ⟨g, 0, none⟩), .int .i64 F1, .int .i64 T1, .int .i64 0, .int .i64 0] 77 (0, 0)) := heap_alloc_new w7 _
  have HO8 := Lib.hid (own_belowG HO7.out hal8)
  have HJ8 := Lib.hid (HJ7.out.below hal8)
  have HB8 := Lib.hid (HB7.out.trans (hal8.mono HB7.out.size))
  have HCL8 := Lib.hid (HCL7.out.below hal8)
  have HX8 := Lib.hid hbx8
  have h70 := HB7.out.size
  clear hal8 hbx8 HO7 HJ7 HB7 HCL7
  generalize w7.alloc (.cells #[.pointer (some ⟨g, 0, none⟩), .int .i64 F0, .int .i64 T0, .int .i64 0, .int .i64 0, .pointer (some ⟨g, 0, none⟩), .int .i64 F1, .int .i64 T1, .int .i64 0, .int .i64 0] 77) = w8 at *
  generalize w7.heap.size = bx at *
  refine (HME.out w8 (HM.out.below HB8.out)).mono ?_
  rintro e9 w9 ⟨rfl, hm9, ho9⟩
  have hj9 : Jn w9 j g F1 T1 e c := ho9.2 j _ 76 (0, 0) HJ8.out (by decide) (by decide) (by decide)
  have hc9 : Cl w9 cb g 0 _ := ho9.2 cb _ 101 (0, 0) HCL8.out (by decide) (by decide) (by decide)
  have hx9 := ho9.2 bx _ 77 (0, 0) HX8.out (by decide) (by decide) (by decide)
  have HO9 := Lib.hid (own_othersD HO8.out ho9)
  have HOT := Lib.hid ((OthersD.below HB8.out).trans ho9)
  have HM9 := Lib.hid hm9
  have HC9 := Lib.hid hc9
  have HJ9 := Lib.hid hj9
  have HX9 := Lib.hid hx9
  clear hm9 ho9 hj9 hc9 hx9 HO8 HJ8 HB8 HCL8 HX8 HME HM
  go_wp2_with fail
  obtain ⟨V, hV⟩ : ∃ V, V = w9.drew := ⟨_, rfl⟩
  have hbV : Below w9.heap.size w9 V := by rw [hV]; exact (Below.refl _ _).drew
  have HJV := Lib.hid (HJ9.out.below hbV)
  have HXV := Lib.hid ((hbV.block bx (Array.getElem?_eq_some_iff.1 HX9.out).1).trans HX9.out)
  refine wp_region_tail 9 V hV (by kernel_rfl) (by kernel_rfl) ?_
  simp only [List.take_succ_cons, List.take_zero, List.drop_succ_cons, List.drop_zero]
  have HBV := Lib.hid hbV
  clear hV hbV
  obtain ⟨j0, j1, j2, j3, j4, _⟩ := jn_cells HJV.out
  obtain ⟨⟨c0, c1, c2, c3, c4⟩, ⟨c5, c6', c7, c8, c9⟩, _⟩ := box10 HXV.out
  iterate 9 still_step
  refine wpStill_nil ?_
  go_wp2_with fail
  go_ret2
  have hbA : Below w9.heap.size w9 (V.alloc (.cells #[.pointer (some ⟨g, 0, none⟩), .pointer (some ⟨cb, 0, none⟩), .pointer (some ⟨g, 0, none⟩), .int .i64 F1, .int .i64 T1, .int .i64 e, .int .i64 c, .pointer (some ⟨g, 0, none⟩), .int .i64 F0, .int .i64 T0, .int .i64 0, .int .i64 0, .pointer (some ⟨g, 0, none⟩), .int .i64 F1, .int .i64 T1, .int .i64 0, .int .i64 0, .slice A6 n6 c6, .bool false] 82)) := HBV.out.alloc HBV.out.size _
  have hh := HHH.out
  obtain ⟨⟨hF0, hT0⟩, hF1, hT1⟩ := HFT.out
  refine ⟨V.heap.size, cb, rfl, ⟨HM9.out.below hbA, ?_, ⟨A6, n6, c6, ?_, own_mono (own_belowG HO9.out hbA) hw0⟩, ?_, ?_⟩, HOT.out.trans (OthersD.below hbA), ?_⟩
  · rw [← hh]; exact HC9.out.below hbA
  · show StB _ _ _ _ (mend s).last.length (openH s).a.toNat (openH s).e (openH s).c _ _
    unfold StB mend
    rw [← hh, HML.out, show (({ t := t, a := 1, e := e, c := c } : H4).a.toNat) = 1 from rfl, ← hF0, ← hT0, ← hF1, ← hT1]
    exact heap_alloc_new V _
  · have := HOT.out.1; have := HBV.out.size; omega
  · omega
  · have := HOT.out.1; have := HBV.out.size; omega
theorem open_any (w0 w : World) (g : Nat) (s : D) (hm : Mine w0 w g s) (hup : s.left < 0) (hN : 4 ≤ s.last.length) (hbuf : s.buf.length ≤ 1099511627776) (a : Nat) (bs : List (List Cg)) (ok : OpOk s a bs) :
    Calls Try.prog 9 #[.pointer (some ⟨g, 0, none⟩)] w (OpenedPost w0 w g ⟨mend s, openH s, allC [] bs.flatten, false⟩) := by
  have := ok.a1
  rcases (show a = 0 ∨ a = 1 by omega) with rfl | rfl
  · exact open_0 w0 w g s hm hup hN hbuf bs ok
  · exact open_1 w0 w g s hm hup hN hbuf bs ok
end Go.Proofs.Ytbfhlleipeipbaa

/- What is proved: the contract of store.lay: which area holds then, its journal, and what is answered. Conditions: those in each statement. -/
namespace Go.Proofs.Ytbfhlleipeipbaa
open Go.RowKit

theorem StB.cells {w : World} {sb cb g n a : Nat} {e c : Int} {pv : Value} {st : Bool} (h : StB w sb cb g n a e c pv st) : (w.cell? ⟨sb, 0, none⟩ = some (.pointer (some ⟨g, 0, none⟩)) ∧ w.cell? ⟨sb, 1, none⟩ = some (.pointer (some ⟨cb, 0, none⟩)) ∧ w.cell? ⟨sb, 2, none⟩ = some (.pointer (some ⟨g, 0, none⟩)) ∧ w.cell? ⟨sb, 3, none⟩ = some (.int .i64 ((frA n a : Nat) * 64)) ∧ w.cell? ⟨sb, 4, none⟩ = some (.int .i64 (((frA n a : Nat) + (hlf n : Nat)) * 64)) ∧ w.cell? ⟨sb, 5, none⟩ = some (.int .i64 e) ∧ w.cell? ⟨sb, 6, none⟩ = some (.int .i64 c)) ∧ (w.cell? ⟨sb, 7, none⟩ = some (.pointer (some ⟨g, 0, none⟩)) ∧ w.cell? ⟨sb, 8, none⟩ = some (.int .i64 ((frA n 0 : Nat) * 64)) ∧ w.cell? ⟨sb, 9, none⟩ = some (.int .i64 (((frA n 0 : Nat) + (hlf n : Nat)) * 64)) ∧ w.cell? ⟨sb, 10, none⟩ = some (.int .i64 0) ∧ w.cell? ⟨sb, 11, none⟩ = some (.int .i64 0)) ∧ (w.cell? ⟨sb, 12, none⟩ = some (.pointer (some ⟨g, 0, none⟩)) ∧ w.cell? ⟨sb, 13, none⟩ = some (.int .i64 ((frA n 1 : Nat) * 64)) ∧ w.cell? ⟨sb, 14, none⟩ = some (.int .i64 (((frA n 1 : Nat) + (hlf n : Nat)) * 64)) ∧ w.cell? ⟨sb, 15, none⟩ = some (.int .i64 0) ∧ w.cell? ⟨sb, 16, none⟩ = some (.int .i64 0)) ∧ (w.cell? ⟨sb, 17, none⟩ = some pv ∧ w.cell? ⟨sb, 18, none⟩ = some (.bool st)) ∧ ∀ j, w.frozen? ⟨sb, j, none⟩ = false := by
  unfold StB at h
  refine ⟨⟨?_, ?_, ?_, ?_, ?_, ?_, ?_⟩, ⟨?_, ?_, ?_, ?_, ?_⟩, ⟨?_, ?_, ?_, ?_, ?_⟩, ⟨?_, ?_⟩, fun j => by simp [World.frozen?, h]⟩
  · rw [cell_of_row w sb 0 _ _ _ h]; rfl
  · rw [cell_of_row w sb 1 _ _ _ h]; rfl
  · rw [cell_of_row w sb 2 _ _ _ h]; rfl
  · rw [cell_of_row w sb 3 _ _ _ h]; rfl
  · rw [cell_of_row w sb 4 _ _ _ h]; rfl
  · rw [cell_of_row w sb 5 _ _ _ h]; rfl
  · rw [cell_of_row w sb 6 _ _ _ h]; rfl
  · rw [cell_of_row w sb 7 _ _ _ h]; rfl
  · rw [cell_of_row w sb 8 _ _ _ h]; rfl
  · rw [cell_of_row w sb 9 _ _ _ h]; rfl
  · rw [cell_of_row w sb 10 _ _ _ h]; rfl
  · rw [cell_of_row w sb 11 _ _ _ h]; rfl
  · rw [cell_of_row w sb 12 _ _ _ h]; rfl
  · rw [cell_of_row w sb 13 _ _ _ h]; rfl
  · rw [cell_of_row w sb 14 _ _ _ h]; rfl
  · rw [cell_of_row w sb 15 _ _ _ h]; rfl
  · rw [cell_of_row w sb 16 _ _ _ h]; rfl
  · rw [cell_of_row w sb 17 _ _ _ h]; rfl
  · rw [cell_of_row w sb 18 _ _ _ h]; rfl
theorem StB.below {w w' : World} {sb cb g n a : Nat} {e c : Int} {pv : Value} {st : Bool} (h : StB w sb cb g n a e c pv st) (hb : Below w.heap.size w w') : StB w' sb cb g n a e c pv st := (hb.block sb (Array.getElem?_eq_some_iff.1 h).1).trans h
theorem StB.others {w w' : World} {sb cb g n a : Nat} {e c : Int} {pv : Value} {st : Bool} (h : StB w sb cb g n a e c pv st) (ho : Others w w') : StB w' sb cb g n a e c pv st := ho.2 sb _ 82 (0, 0) h (by decide) (by decide) (by decide) (by decide)
theorem idx65 (W : World) (a e c : Int) : (Instr.index 65 (.agg #[.int .i64 a, .int .i64 e, .int .i64 c]) (.int .i64 0)).run Try.prog W = .ok (.int .i64 a) W := by
  simp [Instr.index, run_underlying Try.underlying65, asIntOf, part, Try.isAgg2, Try.sizeOf2, go_sem]
/-! ### the first line -/
def jcs (g : Nat) (f t e c : Int) : Array Value := #[.pointer (some ⟨g, 0, none⟩), .int .i64 f, .int .i64 t, .int .i64 e, .int .i64 c]
def jzs : Array Value := #[.pointer none, .int .i64 0, .int .i64 0, .int .i64 0, .int .i64 0]
def lyJ (V : World) (C : Array Value) (ls : Nat → Bool) (a : Act) (w : World) : Prop :=
  Below V.heap.size V w ∧ (ls 10 = true → ∃ k, a.tmps.getD 10 undef = .pointer (some ⟨k, 0, none⟩) ∧ V.heap.size ≤ k ∧ w.heap[k]? = some (.cells (if ls 12 = true then C else jzs) 76 (0, 0)))
section
variable {V w w' : World} {C : Array Value} {ls : Nat → Bool} {a : Act} {i : Nat} {d : Option Tmp}
theorem lyJ.grow (h : lyJ V C ls a w) (h1 : i ≠ 10) (h2 : i ≠ 12) (hd : d ≠ some 10) (v : Value) (hb : Below w.heap.size w w') : lyJ V C (updB ls i) (a.put d v) w' := by
  refine ⟨h.1.trans (hb.mono h.1.size), fun h10 => ?_⟩
  rw [updB_other ls (Ne.symm h1)] at h10
  obtain ⟨k, e, hk, hb'⟩ := h.2 h10
  rw [updB_other ls (Ne.symm h2)]
  exact ⟨k, by rw [put_other a d v 10 hd]; exact e, hk, (hb.block k (Array.getElem?_eq_some_iff.1 hb').1).trans hb'⟩
theorem lyJ.made (h : lyJ V C ls a w) (h12 : ls 12 = false) (hs : 10 < a.tmps.size) : lyJ V C (updB ls 10) (a.put (some 10) (.pointer (some ⟨w.heap.size, 0, none⟩))) (w.alloc (.cells jzs 76)) := by
  refine ⟨h.1.alloc h.1.size _, fun _ => ⟨w.heap.size, put_at a 10 _ hs, h.1.size, ?_⟩⟩
  rw [updB_other ls (by decide : 12 ≠ 10), h12]
  exact heap_alloc_new _ _
theorem lyJ.stored {g : Nat} {f t e c : Int} (h : lyJ V (jcs g f t e c) ls a w) {k : Nat} (e0 : a.tmps.getD 10 undef = .pointer (some ⟨k, 0, none⟩)) (hk : V.heap.size ≤ k) (hb : w.heap[k]? = some (.cells jzs 76 (0, 0))) (v : Value) :
    lyJ V (jcs g f t e c) (updB ls 12) (a.put none v) (((((w.setCell ⟨k, 0, none⟩ (.pointer (some ⟨g, 0, none⟩))).setCell ⟨k, 1, none⟩ (.int .i64 f)).setCell ⟨k, 2, none⟩ (.int .i64 t)).setCell ⟨k, 3, none⟩ (.int .i64 e)).setCell ⟨k, 4, none⟩ (.int .i64 c)) := by
  refine ⟨((((h.1.setCell (p := ⟨k, 0, none⟩) hk _).setCell (p := ⟨k, 1, none⟩) hk _).setCell (p := ⟨k, 2, none⟩) hk _).setCell (p := ⟨k, 3, none⟩) hk _).setCell (p := ⟨k, 4, none⟩) hk _, fun _ => ⟨k, e0, hk, ?_⟩⟩
  rw [updB_at]
  have h1 : (w.setCell ⟨k, 0, none⟩ (.pointer (some ⟨g, 0, none⟩))).heap[k]? = some (.cells #[.pointer (some ⟨g, 0, none⟩), .int .i64 0, .int .i64 0, .int .i64 0, .int .i64 0] 76 (0, 0)) := heap_setCell_at hb 0 _
  have h2 := heap_setCell_at h1 1 (.int .i64 f)
  have h3 := heap_setCell_at h2 2 (.int .i64 t)
  have h4 := heap_setCell_at h3 3 (.int .i64 e)
  exact heap_setCell_at h4 4 (.int .i64 c)
theorem lyJ.pure (h : lyJ V C ls a w) (h1 : i ≠ 10) (h2 : i ≠ 12) (hd : d ≠ some 10) (v : Value) : lyJ V C (updB ls i) (a.put d v) w := h.grow h1 h2 hd v (Below.refl _ _)
end
def lyF (sb cb g : Nat) (f t a e c : Int) : Nat → Value → Prop
  | 0, v | 1, v | 6, v | 7, v => v = .pointer (some ⟨sb, 0, none⟩)
  | 2, v => v = .pointer (some ⟨sb, 1, none⟩)
  | 3, v => v = .pointer (some ⟨cb, 0, none⟩)
  | 4, v => v = .agg #[.int .i64 a, .int .i64 e, .int .i64 c]
  | 5, v | 11, v => v = .int .i64 a
  | 8, v => v = .pointer (some ⟨sb, 2, none⟩)
  | 9, v => v = .agg (jcs g f t e c)
  | _, _ => True
/-- the last line: values, world -/
def leV (ar er : Int) (g : Nat) (f t e c : Int) : Nat → Value
  | 0 | 3 => .int .i64 ar
  | 1 => .agg #[.pointer (some ⟨g, 0, none⟩), .int .i64 f, .int .i64 t, .int .i64 e, .int .i64 c]
  | 2 | 5 => .int .i64 er
  | _ => .tuple #[]
def leW (V W : World) (ls : Nat → Bool) : World := if ls 4 = true then W else V
theorem leW_no {V W : World} {ls : Nat → Bool} (h : ls 4 = false) : leW V W ls = V := by simp [leW, h]
theorem leW_yes {V W : World} {ls : Nat → Bool} (h : ls 4 = true) : leW V W ls = W := by simp [leW, h]
theorem leW_keep {V W : World} {ls : Nat → Bool} {i : Nat} (h : i ≠ 4) : leW V W (updB ls i) = leW V W ls := by unfold leW; rw [updB_other ls (Ne.symm h)]
theorem jn5 {w : World} {k : Nat} {x0 x1 x2 x3 x4 : Value} {t : TypeId} (h : w.heap[k]? = some (.cells #[x0, x1, x2, x3, x4] t (0, 0))) : w.cell? ⟨k, 0, none⟩ = some x0 ∧ w.cell? ⟨k, 1, none⟩ = some x1 ∧ w.cell? ⟨k, 2, none⟩ = some x2 ∧ w.cell? ⟨k, 3, none⟩ = some x3 ∧ w.cell? ⟨k, 4, none⟩ = some x4 ∧ ∀ j, w.frozen? ⟨k, j, none⟩ = false := by
  refine ⟨?_, ?_, ?_, ?_, ?_, fun j => by simp [World.frozen?, h]⟩
  · rw [cell_of_row w k 0 _ t (0, 0) h]; rfl
  · rw [cell_of_row w k 1 _ t (0, 0) h]; rfl
  · rw [cell_of_row w k 2 _ t (0, 0) h]; rfl
  · rw [cell_of_row w k 3 _ t (0, 0) h]; rfl
  · rw [cell_of_row w k 4 _ t (0, 0) h]; rfl

/-- changes that lie in a block of changes -/
def HC52 (w : World) (A : Option Addr) (n c : Nat) (l : List Cg) : Prop := HC w A n c l ∧ (0 < n → ∀ b o, A = some ⟨b, o, none⟩ → ∃ C fr, w.heap[b]? = some (.cells C 52 fr))
theorem HC52.of_own {w : World} {B n c : Nat} {A : Option Addr} {l : List Cg} (h : w.ownsRow B 52 3 (.slice A n c) n (chV l)) : HC52 w A n c l := by
  refine ⟨(own_hc h).1, fun h0 b o hA => ?_⟩
  rcases h.2 with ⟨hv, h1⟩ | ⟨q, cap, cur, hv, _, hg, _⟩
  · omega
  · subst hA
    injection hv with h1
    injection h1 with h1
    injection h1 with h1 h2
    subst h1
    exact ⟨cur, (0, 0), hg⟩
/-- what is of other types than a disk's blocks, and not the journal j, is as it was -/
def OthersJ (j : Nat) (w w' : World) : Prop := w.heap.size ≤ w'.heap.size ∧ ∀ (b : Nat) (C : Array Value) (t : TypeId) (fr : Nat × Nat), w.heap[b]? = some (.cells C t fr) → t ≠ 61 → t ≠ 88 → t ≠ 90 → b ≠ j → w'.heap[b]? = some (.cells C t fr)
theorem OthersJ.refl (j : Nat) (w : World) : OthersJ j w w := ⟨Nat.le_refl _, fun _ _ _ _ h _ _ _ _ => h⟩
theorem OthersJ.below {w w' : World} (j : Nat) (hb : Below w.heap.size w w') : OthersJ j w w' := ⟨hb.size, fun b C t fr h _ _ _ _ => by rw [hb.block b (Array.getElem?_eq_some_iff.1 h).1]; exact h⟩
theorem OthersD.j {w W W' : World} {k : Nat} (h : OthersD w W) (hj : OthersJ k W W') (hk : w.heap.size ≤ k) : OthersD w W' :=
  ⟨Nat.le_trans h.1 hj.1, fun b C t fr hb h1 h2 h3 => hj.2 b C t fr (h.2 b C t fr hb h1 h2 h3) h1 h2 h3 (by have := (Array.getElem?_eq_some_iff.1 hb).1; omega)⟩
section
variable {w0 w w' : World} {j g : Nat} {x : JS} {s : D}
theorem JM.jafterJ {L : Nat} {q : Option Nat} {d' : D} {en' cn' : Nat} (hd : Dk w g L q s) (hb0 : Below w0.heap.size w0 w) (hf : ∀ b, Foot g L q b → w0.heap.size ≤ b) (h0 : w0.heap.size ≤ j) {fr tt : Nat} {e0 c0 : Int} (hj : Jn w j g ((fr : Int) * 64) ((tt : Int) * 64) e0 c0)
    (h : JAfter w w' j g L q ((fr : Int) * 64) ((tt : Int) * 64) (en' : Int) (cn' : Int) d') : JM w0 w' j g ⟨d', fr, tt, en', cn'⟩ ∧ OthersJ j w w' := by
  refine ⟨(JM.jafter hd hb0 hf h0 hj h).1, ?_⟩
  obtain ⟨q', hd', hq, hc, hj'⟩ := h
  refine ⟨hc.size, fun b C t fr hb h1 h2 h3 h4 => (hc.block b (Array.getElem?_eq_some_iff.1 hb).1 ?_).trans hb⟩
  rintro (hx | rfl)
  · exact hd.other hb h1 h2 h3 hx
  · exact h4 rfl
theorem append_jmJ (h : JM w0 w j g x) (hx : x.Ok) (A : Option Addr) (m c : Nat) (b : List UInt8) (hb : Hold w A m c b) (hm : m ≤ 140737488355328) (hbuf : x.d.buf.length ≤ 1099511627776) :
    Calls Try.prog 78 #[.pointer (some ⟨j, 0, none⟩), .slice A m c] w fun e w' => e = .returned (.int .i64 (x.err b)) ∧ JM w0 w' j g (x.app b) ∧ OthersJ j w w' := by
  have hl := hb.1
  obtain ⟨hM, hj, h0⟩ := h
  have hM' := hM
  obtain ⟨L, q, hd, hb0, hf⟩ := hM
  have hmost := hd.ok.most
  obtain ⟨a1, a2, a3, a4⟩ := hx
  by_cases h1 : 1048576 < b.length
  · refine (append_long w j A m c (by omega) hm).mono ?_
    rintro e w' ⟨rfl, rfl⟩
    unfold JS.err JS.app
    rw [if_pos h1, if_pos h1]
    exact ⟨rfl, ⟨hM', hj, h0⟩, OthersJ.refl _ _⟩
  · by_cases h2 : 64 * (x.to - x.fr) < x.en + 16 + b.length
    · refine (append_full w j g _ _ _ _ A m c (by omega) (by omega) (by omega) (by omega) (by omega) (by omega) (by omega) (by omega) hj).mono ?_
      rintro e w' ⟨rfl, hbw⟩
      unfold JS.err JS.app
      rw [if_neg h1, if_neg h1, if_pos h2, if_pos h2]
      exact ⟨rfl, JM.below ⟨hM', hj, h0⟩ hbw, OthersJ.below _ hbw⟩
    · refine (append_fits w j g L q x.d hd _ _ _ _ A m c b hb (by omega) (by omega) (by omega) (by omega) (by omega) (by omega) (by omega) (by omega) (by omega) (by omega) hj (x.fr + x.en / 64) (x.en % 64) (by omega) (by omega) (by omega) hbuf).mono ?_
      intro e w' hp
      unfold AppPost at hp
      unfold JS.err JS.app
      rw [if_neg h1, if_neg h1, if_neg h2, if_neg h2]
      by_cases h3 : x.d.left = 0
      · rw [if_pos h3] at hp
        rw [if_pos h3, if_pos h3]
        exact ⟨hp.1, JM.jafterJ hd hb0 hf h0 hj hp.2⟩
      · rw [if_neg h3] at hp
        rw [if_neg h3, if_neg h3]
        refine ⟨hp.1, ?_⟩
        have hp2 := hp.2
        show JM w0 w' j g (if (x.d.appW (x.fr + x.en / 64) (x.en % 64) b).fErr = 0 then ⟨_, _, _, _, _⟩ else ⟨_, _, _, _, _⟩) ∧ _
        by_cases h4 : (x.d.appW (x.fr + x.en / 64) (x.en % 64) b).fErr = 0
        · rw [if_pos h4, if_pos h4] at hp2
          rw [if_pos h4]
          have e1 : (x.en : Int) + 16 + m = ((x.en + 16 + b.length : Nat) : Int) := by omega
          have e2 : (x.cn : Int) + 1 = ((x.cn + 1 : Nat) : Int) := by omega
          rw [e1, e2] at hp2
          exact JM.jafterJ hd hb0 hf h0 hj hp2
        · rw [if_neg h4, if_neg h4] at hp2
          rw [if_neg h4]
          exact JM.jafterJ hd hb0 hf h0 hj hp2
end
theorem fErr_two (s : D) : s.fErr = 0 ∨ s.fErr = 32 := by unfold D.fErr; by_cases h : s.left = 0 <;> simp [h]
theorem full_app {x : JS} {b : List UInt8} (h : x.err b = 51 ∨ x.err b = 3) : x.app b = x := by
  unfold JS.err at h
  unfold JS.app
  by_cases h1 : 1048576 < b.length
  · rw [if_pos h1]
  · rw [if_neg h1] at h ⊢
    by_cases h2 : 64 * (x.to - x.fr) < x.en + 16 + b.length
    · rw [if_pos h2]
    · rw [if_neg h2] at h ⊢
      by_cases h3 : x.d.left = 0
      · rw [if_pos h3]
      · rw [if_neg h3] at h
        have := fErr_two (x.wr b)
        omega
theorem hc_othersD {w w' : World} {A : Option Addr} {n c : Nat} {l : List Cg} (h : HC52 w A n c l) (ho : OthersD w w') : HC w' A n c l := by
  obtain ⟨⟨h1, h2, h3, h4⟩, h5⟩ := h
  refine ⟨h1, h2, fun hn => ?_, h4⟩
  obtain ⟨b, o, hA, hlt, hH⟩ := h3 hn
  obtain ⟨C, fr, hC⟩ := h5 hn b o hA
  have hb := ho.2 b C 52 fr hC (by decide) (by decide) (by decide)
  refine ⟨b, o, hA, Nat.lt_of_lt_of_le hlt ho.1, fun t ht => ?_⟩
  have := hH t ht
  rw [cell_of_row w b (o + t) C 52 fr hC] at this
  rw [cell_of_row w' b (o + t) C 52 fr hb]
  exact ⟨this.1, by rw [show w'.frozen? ⟨b, o + t, none⟩ = w.frozen? ⟨b, o + t, none⟩ by simp [World.frozen?, hb, hC]]; exact this.2⟩
/-- another journal's numbers are laid into a journal -/
theorem jm_reset {w0 W : World} {k g : Nat} {x : JS} (hx : JM w0 W k g x) (f t e c : Int) (y : JS) (hd : y.d = x.d) (hf : f = (y.fr : Int) * 64) (ht : t = (y.to : Int) * 64) (he : e = (y.en : Int)) (hc : c = (y.cn : Int)) :
    JM w0 (((((W.setCell ⟨k, 0, none⟩ (.pointer (some ⟨g, 0, none⟩))).setCell ⟨k, 1, none⟩ (.int .i64 f)).setCell ⟨k, 2, none⟩ (.int .i64 t)).setCell ⟨k, 3, none⟩ (.int .i64 e)).setCell ⟨k, 4, none⟩ (.int .i64 c)) k g y ∧
    OthersJ k W (((((W.setCell ⟨k, 0, none⟩ (.pointer (some ⟨g, 0, none⟩))).setCell ⟨k, 1, none⟩ (.int .i64 f)).setCell ⟨k, 2, none⟩ (.int .i64 t)).setCell ⟨k, 3, none⟩ (.int .i64 e)).setCell ⟨k, 4, none⟩ (.int .i64 c)) := by
  obtain ⟨hm, hj, h0⟩ := hx
  have hch : Chg (fun b => b = k) W (((((W.setCell ⟨k, 0, none⟩ (.pointer (some ⟨g, 0, none⟩))).setCell ⟨k, 1, none⟩ (.int .i64 f)).setCell ⟨k, 2, none⟩ (.int .i64 t)).setCell ⟨k, 3, none⟩ (.int .i64 e)).setCell ⟨k, 4, none⟩ (.int .i64 c)) :=
    (((((Chg.refl (fun b => b = k) W).setCell (p := ⟨k, 0, none⟩) (.inl rfl) _).setCell (p := ⟨k, 1, none⟩) (.inl rfl) _).setCell (p := ⟨k, 2, none⟩) (.inl rfl) _).setCell (p := ⟨k, 3, none⟩) (.inl rfl) _).setCell (p := ⟨k, 4, none⟩) (.inl rfl) _
  unfold Jn at hj
  have h1 := heap_setCell_at hj 0 (.pointer (some ⟨g, 0, none⟩))
  have h2 := heap_setCell_at h1 1 (.int .i64 f)
  have h3 := heap_setCell_at h2 2 (.int .i64 t)
  have h4 := heap_setCell_at h3 3 (.int .i64 e)
  have h5 := heap_setCell_at h4 4 (.int .i64 c)
  refine ⟨⟨?_, ?_, h0⟩, hch.size, fun b C t fr hb _ _ _ hne => (hch.block b (Array.getElem?_eq_some_iff.1 hb).1 hne).trans hb⟩
  · rw [hd]
    exact hm.frame hch (fun b hb => by subst hb; exact h0) (fun b hb => by subst hb; exact ⟨_, _, _, hj, by decide, by decide, by decide⟩)
  · subst hf ht he hc
    exact h5
/-- the result is laid -/
theorem jm_result {w0 w W : World} {k g rb : Nat} {x : JS} (hx : JM w0 W k g x) (hr : W.heap[rb]? = some (.cells jzs 76 (0, 0))) (hrw : rb = w.heap.size) (h0 : w0.heap.size ≤ w.heap.size) (ho : OthersD w W) (f t e c : Int) (hf : f = (x.fr : Int) * 64) (ht : t = (x.to : Int) * 64) (he : e = (x.en : Int)) (hc : c = (x.cn : Int)) (W' : World)
    (hW : W' = ((((W.setCell ⟨rb, 0, none⟩ (.pointer (some ⟨g, 0, none⟩))).setCell ⟨rb, 1, none⟩ (.int .i64 f)).setCell ⟨rb, 2, none⟩ (.int .i64 t)).setCell ⟨rb, 3, none⟩ (.int .i64 e)).setCell ⟨rb, 4, none⟩ (.int .i64 c)) :
    W'.heap[rb]? = some (.cells (jcs g ((x.fr : Int) * 64) ((x.to : Int) * 64) (x.en : Int) (x.cn : Int)) 76 (0, 0)) ∧ Mine w0 W' g x.d ∧ Others w W' := by
  subst hf ht he hc hW hrw
  have hch : Chg (fun b => b = w.heap.size) W (((((W.setCell ⟨w.heap.size, 0, none⟩ (.pointer (some ⟨g, 0, none⟩))).setCell ⟨w.heap.size, 1, none⟩ (.int .i64 ((x.fr : Int) * 64))).setCell ⟨w.heap.size, 2, none⟩ (.int .i64 ((x.to : Int) * 64))).setCell ⟨w.heap.size, 3, none⟩ (.int .i64 (x.en : Int))).setCell ⟨w.heap.size, 4, none⟩ (.int .i64 (x.cn : Int))) :=
    (((((Chg.refl (fun b => b = w.heap.size) W).setCell (p := ⟨w.heap.size, 0, none⟩) (.inl rfl) _).setCell (p := ⟨w.heap.size, 1, none⟩) (.inl rfl) _).setCell (p := ⟨w.heap.size, 2, none⟩) (.inl rfl) _).setCell (p := ⟨w.heap.size, 3, none⟩) (.inl rfl) _).setCell (p := ⟨w.heap.size, 4, none⟩) (.inl rfl) _
  have h1 : (W.setCell ⟨w.heap.size, 0, none⟩ (.pointer (some ⟨g, 0, none⟩))).heap[w.heap.size]? = some (.cells #[.pointer (some ⟨g, 0, none⟩), .int .i64 0, .int .i64 0, .int .i64 0, .int .i64 0] 76 (0, 0)) := heap_setCell_at hr 0 _
  have h2 := heap_setCell_at h1 1 (.int .i64 ((x.fr : Int) * 64))
  have h3 := heap_setCell_at h2 2 (.int .i64 ((x.to : Int) * 64))
  have h4 := heap_setCell_at h3 3 (.int .i64 (x.en : Int))
  have h5 := heap_setCell_at h4 4 (.int .i64 (x.cn : Int))
  refine ⟨h5, hx.1.frame hch (fun b hb => by subst hb; exact h0) (fun b hb => by subst hb; exact ⟨_, _, _, hr, by decide, by decide, by decide⟩), ?_⟩
  refine ⟨Nat.le_trans ho.1 hch.size, fun b C t fr hb h1 h2 h3 _ => (hch.block b (Array.getElem?_eq_some_iff.1 (ho.2 b C t fr hb h1 h2 h3)).1 ?_).trans (ho.2 b C t fr hb h1 h2 h3)⟩
  intro e
  have := (Array.getElem?_eq_some_iff.1 hb).1
  omega

/-! ### lay, as plain functions -/
def areaJ (d : D) (a en cn : Nat) : JS := ⟨d, frA d.last.length a, frA d.last.length a + hlf d.last.length, en, cn⟩
def full (e : Int) : Prop := e = 51 ∨ e = 3
instance (e : Int) : Decidable (full e) := inferInstanceAs (Decidable (_ ∨ _))
def layA (d : D) (a en cn : Nat) (b : List UInt8) : Nat := if full ((areaJ d a en cn).err b) then 1 - a else a
def layJ (d : D) (a en cn : Nat) (b b2 : List UInt8) : JS := if full ((areaJ d a en cn).err b) then (areaJ d (1 - a) 0 0).app b2 else (areaJ d a en cn).app b
def layE (d : D) (a en cn : Nat) (b b2 : List UInt8) : Int := if full ((areaJ d a en cn).err b) then (if full ((areaJ d (1 - a) 0 0).err b2) then 51 else (areaJ d (1 - a) 0 0).err b2) else (areaJ d a en cn).err b
def LayPost (w0 w : World) (g : Nat) (ar : Nat) (x : JS) (er : Int) (e : Ending) (w' : World) : Prop :=
  e = .returned (.tuple #[.int .i64 (ar : Int), .agg (jcs g ((x.fr : Int) * 64) ((x.to : Int) * 64) (x.en : Int) (x.cn : Int)), .int .i64 er]) ∧ Mine w0 w' g x.d ∧ Others w w'

set_option maxRecDepth 100000 in
set_option maxHeartbeats 4000000 in
theorem lay_any (w0 w : World) (sb cb g : Nat) (d : D) (h : H4) (a en cn : Nat) (pv : Value) (st : Bool) (hm : Mine w0 w g d) (hcl : Cl w cb g 0 h) (hst : StB w sb cb g d.last.length a (en : Int) (cn : Int) pv st)
    (ha : h.a = (a : Int)) (he : h.e = (en : Int)) (hc : h.c = (cn : Int)) (a1 : a ≤ 1) (hjo : (areaJ d a en cn).Ok) (hj2 : (areaJ d (1 - a) 0 0).Ok) (A : Option Addr) (m c : Nat) (b : List UInt8) (hb : Hold w A m c b) (hm1 : m ≤ 140737488355328)
    (A2 : Option Addr) (n2 c2 : Nat) (P : List Cg) (hP : HC52 w A2 n2 c2 P) (hPs : (chsB P).length ≤ 1099511627776) (hPv : ∀ x ∈ P, x.key.size + x.val.size ≤ 1099511627776) (hbuf : d.buf.length ≤ 1099511627776) :
    Calls Try.prog 52 #[.pointer (some ⟨sb, 0, none⟩), .slice A m c, .slice A2 n2 c2] w (LayPost w0 w g (layA d a en cn b) (layJ d a en cn b (batB P)) (layE d a en cn b (batB P))) := by
  obtain ⟨V, hV⟩ : ∃ V, V = (w.alloc (.cells jzs 76)).drew := ⟨_, rfl⟩
  have hbV : Below w.heap.size w V := by rw [hV]; exact ((Below.refl _ _).alloc (Nat.le_refl _) _).drew
  have hrb : V.heap[w.heap.size]? = some (.cells jzs 76 (0, 0)) := by rw [hV]; exact heap_alloc_new w _
  have hw0 := hm.b.size
  have HV := Lib.hid hV
  have HBV := Lib.hid hbV
  have HRB := Lib.hid hrb
  have HM := Lib.hid hm
  have HCL := Lib.hid hcl
  have HST := Lib.hid hst
  have HA := Lib.hid ha
  have HE := Lib.hid he
  have HCN := Lib.hid hc
  have HJO := Lib.hid hjo
  have HJ2 := Lib.hid hj2
  have HHB := Lib.hid hb
  have HHP := Lib.hid hP
  have HPV := Lib.hid hPv
  obtain ⟨f, hf⟩ : ∃ x : Int, x = (frA d.last.length a : Nat) * 64 := ⟨_, rfl⟩
  obtain ⟨t, ht⟩ : ∃ x : Int, x = ((frA d.last.length a : Nat) + (hlf d.last.length : Nat)) * 64 := ⟨_, rfl⟩
  have HFT := Lib.hid (And.intro hf ht)
  clear hV hbV hrb hm hcl hst he hc ha hjo hj2 hb hP hPv hf ht
  go_enter Try.func52, Try.ntmps52
  go_wp2_with fail
  refine wp_region_stepsA (lyF sb cb g f t (a : Int) (en : Int) (cn : Int)) (lyJ V (jcs g f t (en : Int) (cn : Int))) (by kernel_rfl) (by kernel_rfl) ⟨by rw [HV.out]; exact Below.refl _ _, fun h => (by cases h)⟩ ?_ ?_
  · refine ⟨?_, ?_, ?_, ?_, ?_, ?_, ?_, ?_, ?_, ?_, ?_, ?_, ?_, trivial⟩
    · intro x W ls hJ hi hcl hd hoff hf
      left
      refine ⟨rfl, ?_⟩
      have e0 : x.tmps.getD 0 undef = .pointer (some ⟨sb, 0, none⟩) := hoff.slot 0 (no_dst (by kernel_rfl))
      go_simp
      exact ⟨_, rfl, rfl, hJ.pure (i := 0) (d := some 12) (by decide) (by decide) (by decide) _⟩
    · intro x W ls hJ hi hcl hd hoff hf
      left
      refine ⟨rfl, ?_⟩
      have e0 : x.tmps.getD 12 undef = .pointer (some ⟨sb, 0, none⟩) := hf 0 _ (hd 0 rfl) rfl
      go_simp
      exact ⟨_, rfl, rfl, hJ.pure (i := 1) (d := some 13) (by decide) (by decide) (by decide) _⟩
    · intro x W ls hJ hi hcl hd hoff hf
      left
      refine ⟨rfl, ?_⟩
      have e0 : x.tmps.getD 13 undef = .pointer (some ⟨sb, 0, none⟩) := hf 1 _ (hd 1 rfl) rfl
      go_simp
      exact ⟨_, rfl, rfl, hJ.pure (i := 2) (d := some 14) (by decide) (by decide) (by decide) _⟩
    · intro x W ls hJ hi hcl hd hoff hf
      left
      refine ⟨rfl, ?_⟩
      have e0 : x.tmps.getD 14 undef = .pointer (some ⟨sb, 1, none⟩) := hf 2 _ (hd 2 rfl) rfl
      obtain ⟨⟨s0, s1, s2, s3, s4, s5, s6⟩, _, _, _, _⟩ := (HST.out.below (HBV.out.trans (hJ.1.mono HBV.out.size))).cells
      go_simp
      exact ⟨_, rfl, rfl, hJ.pure (i := 3) (d := some 15) (by decide) (by decide) (by decide) _⟩
    · intro x W ls hJ hi hcl hd hoff hf
      left
      refine ⟨rfl, ?_⟩
      have e0 : x.tmps.getD 15 undef = .pointer (some ⟨cb, 0, none⟩) := hf 3 _ (hd 3 rfl) rfl
      go_simp
      refine (cget_any W cb g 0 h (HCL.out.below (HBV.out.trans (hJ.1.mono HBV.out.size)))).mono ?_
      rintro e W2 ⟨rfl, hb2⟩
      exact ⟨_, rfl, (by show Value.agg #[.int .i64 h.a, .int .i64 h.e, .int .i64 h.c] = _; rw [HA.out, HE.out, HCN.out]), hJ.grow (i := 4) (d := some 16) (by decide) (by decide) (by decide) _ hb2⟩
    · intro x W ls hJ hi hcl hd hoff hf
      left
      refine ⟨rfl, ?_⟩
      have e0 : x.tmps.getD 16 undef = .agg #[.int .i64 (a : Int), .int .i64 (en : Int), .int .i64 (cn : Int)] := hf 4 _ (hd 4 rfl) rfl
      have hix := fun W => idx65 W (a : Int) (en : Int) (cn : Int)
      go_simp
      exact ⟨_, rfl, rfl, hJ.pure (i := 5) (d := some 17) (by decide) (by decide) (by decide) _⟩
    · intro x W ls hJ hi hcl hd hoff hf
      left
      refine ⟨rfl, ?_⟩
      have e0 : x.tmps.getD 0 undef = .pointer (some ⟨sb, 0, none⟩) := hoff.slot 0 (no_dst (by kernel_rfl))
      go_simp
      exact ⟨_, rfl, rfl, hJ.pure (i := 6) (d := some 18) (by decide) (by decide) (by decide) _⟩
    · intro x W ls hJ hi hcl hd hoff hf
      left
      refine ⟨rfl, ?_⟩
      have e0 : x.tmps.getD 18 undef = .pointer (some ⟨sb, 0, none⟩) := hf 6 _ (hd 6 rfl) rfl
      go_simp
      exact ⟨_, rfl, rfl, hJ.pure (i := 7) (d := some 19) (by decide) (by decide) (by decide) _⟩
    · intro x W ls hJ hi hcl hd hoff hf
      left
      refine ⟨rfl, ?_⟩
      have e0 : x.tmps.getD 19 undef = .pointer (some ⟨sb, 0, none⟩) := hf 7 _ (hd 7 rfl) rfl
      go_simp
      exact ⟨_, rfl, rfl, hJ.pure (i := 8) (d := some 20) (by decide) (by decide) (by decide) _⟩
    · intro x W ls hJ hi hcl hd hoff hf
      left
      refine ⟨rfl, ?_⟩
      have e0 : x.tmps.getD 20 undef = .pointer (some ⟨sb, 2, none⟩) := hf 8 _ (hd 8 rfl) rfl
      obtain ⟨⟨s0, s1, s2, s3, s4, s5, s6⟩, _, _, _, _⟩ := (HST.out.below (HBV.out.trans (hJ.1.mono HBV.out.size))).cells
      rw [← HFT.out.1] at s3
      rw [← HFT.out.2] at s4
      go_simp
      exact ⟨_, rfl, rfl, hJ.pure (i := 9) (d := some 21) (by decide) (by decide) (by decide) _⟩
    · intro x W ls hJ hi hcl hd hoff hf
      left
      refine ⟨rfl, ?_⟩
      have h12 : ls 12 = false := hcl.no hi rfl rfl
      have hsz : (10 : Nat) < x.tmps.size := by rw [hoff.size]; exact (by decide : (10 : Nat) < 42)
      go_simp
      exact ⟨_, rfl, trivial, hJ.made h12 hsz⟩
    · intro x W ls hJ hi hcl hd hoff hf
      left
      refine ⟨rfl, ?_⟩
      have e0 : x.tmps.getD 17 undef = .int .i64 (a : Int) := hf 5 _ (hd 5 rfl) rfl
      go_simp
      exact ⟨_, rfl, rfl, hJ.pure (i := 11) (d := some 9) (by decide) (by decide) (by decide) _⟩
    · intro x W ls hJ hi hcl hd hoff hf
      left
      refine ⟨rfl, ?_⟩
      have e0 : x.tmps.getD 21 undef = .agg #[.pointer (some ⟨g, 0, none⟩), .int .i64 f, .int .i64 t, .int .i64 (en : Int), .int .i64 (cn : Int)] := hf 9 _ (hd 9 rfl) rfl
      obtain ⟨k, e1, hk, hkb⟩ := hJ.2 (hd 10 rfl)
      rw [hi] at hkb
      obtain ⟨k0, k1, k2, k3, k4, kf⟩ := jn5 (show W.heap[k]? = some (.cells #[.pointer none, .int .i64 0, .int .i64 0, .int .i64 0, .int .i64 0] 76 (0, 0)) from hkb)
      have kf0 := kf 0
      have kf1 := kf 1
      have kf2 := kf 2
      have kf3 := kf 3
      have kf4 := kf 4
      clear kf
      have HJJ := Lib.hid hJ
      have HKB := Lib.hid hkb
      clear hJ hkb
      go_simp
      exact ⟨undef, rfl, trivial, HJJ.out.stored e1 hk HKB.out undef⟩
  · intro x W ls hall hJ hoff hf
    obtain ⟨k, e10, hk, hkb⟩ := hJ.2 (hall 10 (by decide))
    rw [if_pos (hall 12 (by decide))] at hkb
    have e9 : x.tmps.getD 9 undef = .int .i64 (a : Int) := hf 11 _ rfl
    have hbW := HBV.out.trans (hJ.1.mono HBV.out.size)
    have hrW := (hJ.1.block w.heap.size (Array.getElem?_eq_some_iff.1 HRB.out).1).trans HRB.out
    have HKB := Lib.hid hkb
    have HBW := Lib.hid hbW
    have HRW := Lib.hid hrW
    have hk0 : w.heap.size < k := by have := (Array.getElem?_eq_some_iff.1 HRB.out).1; omega
    obtain ⟨ys, hys, ha⟩ := off_form hoff (mask := [false, false, false, false, false, false, false, false, false, true, true, false, true, true, true, true, true, true, true, true, true, true, false, false, false, false, false, false, false, false, false, false, false, false, false, false, false, false, false, false, false, false]) (by kernel_rfl)
    rw [hys] at e10 e9
    subst ha
    simp only [fillFrom, Nat.zero_add, Nat.reduceAdd] at *
    rw [e10, e9]
    clear hf hoff hJ hys hkb hbW hrW hall e10 e9 HV HBV HRB hk
    rename_i hKK
    refine hKK _ _ ?_
    clear hKK
    have hx1 : JM w0 W k g (areaJ d a en cn) := ⟨HM.out.below HBW.out, by
      have h1 : f = ((areaJ d a en cn).fr : Int) * 64 := HFT.out.1
      have h2 : t = ((areaJ d a en cn).to : Int) * 64 := by rw [HFT.out.2]; show _ = ((frA d.last.length a + hlf d.last.length : Nat) : Int) * 64; rw [Int.natCast_add]
      have := HKB.out
      rw [h1, h2] at this
      exact this, by omega⟩
    have hap := append_jmJ hx1 HJO.out A m c b (HHB.out.below HBW.out) hm1 hbuf
    have HAP := Lib.hid hap
    clear hap hx1
    go_wp2_with fail
    refine HAP.out.mono ?_
    rintro e W2 ⟨rfl, hj2', ho2⟩
    have hOD := (OthersD.below HBW.out).j ho2 (Nat.le_of_lt hk0)
    have hr2 := ho2.2 w.heap.size _ 76 (0, 0) HRW.out (by decide) (by decide) (by decide) (by omega)
    have HOD := Lib.hid hOD
    have HR2 := Lib.hid hr2
    have HJ2' := Lib.hid hj2'
    obtain ⟨er1, her1⟩ : ∃ z, z = (areaJ d a en cn).err b := ⟨_, rfl⟩
    rw [← her1]
    have HER := Lib.hid her1
    clear hOD hr2 hj2' ho2 HAP her1 HRW HKB
    by_cases hfl : er1 = 51 ∨ er1 = 3
    · have hsame : (areaJ d a en cn).app b = areaJ d a en cn := full_app (by rw [← HER.out]; exact hfl)
      have hJ3 := HJ2'.out
      rw [hsame] at hJ3
      have HJ3 := Lib.hid hJ3
      have HST2 : Hid (StB W2 sb cb g d.last.length a (en : Int) (cn : Int) pv st) := Lib.hid (HOD.out.2 sb _ 82 (0, 0) HST.out (by decide) (by decide) (by decide))
      have HN1 := Lib.hid fun W => noRoom_yes er1 W hfl
      have hlA : layA d a en cn b = 1 - a := by unfold layA; rw [if_pos (show full _ by rw [← HER.out]; exact hfl)]
      have hlJ : layJ d a en cn b (batB P) = (areaJ d (1 - a) 0 0).app (batB P) := by unfold layJ; rw [if_pos (show full _ by rw [← HER.out]; exact hfl)]
      have hlE : layE d a en cn b (batB P) = (if full ((areaJ d (1 - a) 0 0).err (batB P)) then 51 else (areaJ d (1 - a) 0 0).err (batB P)) := by unfold layE; rw [if_pos (show full _ by rw [← HER.out]; exact hfl)]
      have HL := Lib.hid (And.intro hlA (And.intro hlJ hlE))
      clear hsame hJ3 hfl HJ2' hlA hlJ hlE
      obtain ⟨_, ⟨s7, s8, s9, s10, s11⟩, ⟨s12, s13, s14, s15, s16⟩, _, _⟩ := HST2.out.cells
      obtain ⟨F0, hF0⟩ : ∃ x : Int, x = (frA d.last.length 0 : Nat) * 64 := ⟨_, rfl⟩
      obtain ⟨T0, hT0⟩ : ∃ x : Int, x = ((frA d.last.length 0 : Nat) + (hlf d.last.length : Nat)) * 64 := ⟨_, rfl⟩
      obtain ⟨F1, hF1⟩ : ∃ x : Int, x = (frA d.last.length 1 : Nat) * 64 := ⟨_, rfl⟩
      obtain ⟨T1, hT1⟩ : ∃ x : Int, x = ((frA d.last.length 1 : Nat) + (hlf d.last.length : Nat)) * 64 := ⟨_, rfl⟩
      rw [← hF0] at s8
      rw [← hT0] at s9
      rw [← hF1] at s13
      rw [← hT1] at s14
      have HFF := Lib.hid (And.intro (And.intro hF0 hT0) (And.intro hF1 hT1))
      clear hF0 hT0 hF1 hT1
      obtain ⟨k0, k1, k2, k3, k4, kf⟩ := jn_cells HJ3.out.2.1
      have kf0 := kf 0
      have kf1 := kf 1
      have kf2 := kf 2
      have kf3 := kf 3
      have kf4 := kf 4
      clear kf
      rcases (show a = 0 ∨ a = 1 by omega) with rfl | rfl
      · obtain ⟨hJ4, ho4⟩ := jm_reset HJ3.out F1 T1 0 0 (areaJ d 1 0 0) rfl HFF.out.2.1 (by rw [HFF.out.2.2]; show _ = ((frA d.last.length 1 + hlf d.last.length : Nat) : Int) * 64; rw [Int.natCast_add]) rfl rfl
        have HJ4 := Lib.hid hJ4
        have HO4 := Lib.hid (HOD.out.j ho4 (Nat.le_of_lt hk0))
        have HR4 := Lib.hid (ho4.2 w.heap.size _ 76 (0, 0) HR2.out (by decide) (by decide) (by decide) (by omega))
        clear hJ4 ho4
        go_wp2_with (go_at_call 79; refine (HN1.out _).mono ?_; rintro e W3 ⟨rfl, rfl⟩)
        clear k0 k1 k2 k3 k4 kf0 kf1 kf2 kf3 kf4 s7 s8 s9 s10 s11 s12 s13 s14 s15 s16 HN1 HJ3 HR2 HOD HST2
        generalize ((((W2.setCell ⟨k, 0, none⟩ (.pointer (some ⟨g, 0, none⟩))).setCell ⟨k, 1, none⟩ (.int .i64 F1)).setCell ⟨k, 2, none⟩ (.int .i64 T1)).setCell ⟨k, 3, none⟩ (.int .i64 0)).setCell ⟨k, 4, none⟩ (.int .i64 0) = W4 at *
        have HBO := Lib.hid (bytesOf_any A2 n2 c2 P W4 (hc_othersD HHP.out HO4.out) hPs HPV.out)
        refine HBO.out.mono ?_
        rintro e W5 ⟨A5, n5, c5, rfl, ho5, hb5⟩
        have hh5 := Hold.of_own ho5
        have hn5 := hh5.1
        rw [batB_length] at hn5
        have HAP := Lib.hid (append_jmJ (HJ4.out.below hb5) HJ2.out A5 n5 c5 (batB P) hh5 (by omega) hbuf)
        have HO5 := Lib.hid (HO4.out.trans (OthersD.below hb5))
        have HR5 := Lib.hid ((hb5.block w.heap.size (Array.getElem?_eq_some_iff.1 HR4.out).1).trans HR4.out)
        clear ho5 hb5 hh5 hn5 HBO HO4 HR4 HJ4
        go_wp2_with (go_at_call 78; refine HAP.out.mono ?_; rintro e W6 ⟨rfl, hj6, ho6⟩; have HJ6 := Lib.hid hj6; have HO6 := Lib.hid (HO5.out.j ho6 (Nat.le_of_lt hk0)); have HR6 := Lib.hid (ho6.2 w.heap.size _ 76 (0, 0) HR5.out (by decide) (by decide) (by decide) (by omega)); clear hj6 ho6 HO5 HR5 HAP)
        obtain ⟨er2, her2⟩ : ∃ z, z = (areaJ d 1 0 0).err (batB P) := ⟨_, rfl⟩
        rw [← her2]
        have HER2 := Lib.hid her2
        clear her2
        by_cases hfl2 : er2 = 51 ∨ er2 = 3
        · have HN2 := Lib.hid fun W => noRoom_yes er2 W hfl2
          have hlE : layE d 0 en cn b (batB P) = 51 := by rw [HL.out.2.2]; rw [if_pos (show full _ by rw [← HER2.out]; exact hfl2)]
          have HLE := Lib.hid hlE
          clear hfl2 hlE
          refine (HN2.out _).mono ?_
          rintro e W7 ⟨rfl, rfl⟩
          clear HN2
          go_wp2_with fail
          have hjx := HJ6.out
          have hjn := hjx.2.1
          obtain ⟨fr, hfr⟩ : ∃ z : Int, z = (((areaJ d 1 0 0).app (batB P)).fr : Int) * 64 := ⟨_, rfl⟩
          obtain ⟨tr, htr⟩ : ∃ z : Int, z = (((areaJ d 1 0 0).app (batB P)).to : Int) * 64 := ⟨_, rfl⟩
          obtain ⟨er', her'⟩ : ∃ z : Int, z = (((areaJ d 1 0 0).app (batB P)).en : Int) := ⟨_, rfl⟩
          obtain ⟨cr, hcr⟩ : ∃ z : Int, z = (((areaJ d 1 0 0).app (batB P)).cn : Int) := ⟨_, rfl⟩
          rw [← hfr, ← htr, ← her', ← hcr] at hjn
          obtain ⟨V9, hV9⟩ : ∃ V, V = W6.drew := ⟨_, rfl⟩
          have hbV9 : Below W6.heap.size W6 V9 := by rw [hV9]; exact (Below.refl _ _).drew
          have hj9 := hjn.below hbV9
          have hr9 := (hbV9.block w.heap.size (Array.getElem?_eq_some_iff.1 HR6.out).1).trans HR6.out
          obtain ⟨hq, hmq, hoq⟩ := jm_result (hjx.below hbV9) hr9 rfl hw0 (HO6.out.trans (OthersD.below hbV9)) fr tr er' cr hfr htr her' hcr _ rfl
          have HFR := Lib.hid (And.intro (And.intro hfr htr) (And.intro her' hcr))
          rw [← hfr, ← htr, ← her', ← hcr] at hq
          unfold jcs at hq
          obtain ⟨q0, q1, q2, q3, q4, qf⟩ := jn5 hq
          obtain ⟨j0, j1, j2, j3, j4, jf⟩ := jn_cells hj9
          obtain ⟨r0, r1, r2, r3, r4, rf⟩ := jn5 (show V9.heap[w.heap.size]? = some (.cells #[.pointer none, .int .i64 0, .int .i64 0, .int .i64 0, .int .i64 0] 76 (0, 0)) from hr9)
          have rf0 := rf 0
          have rf1 := rf 1
          have rf2 := rf 2
          have rf3 := rf 3
          have rf4 := rf 4
          have HQ0 := Lib.hid q0
          have HQ1 := Lib.hid q1
          have HQ2 := Lib.hid q2
          have HQ3 := Lib.hid q3
          have HQ4 := Lib.hid q4
          have HMQ := Lib.hid hmq
          have HOQ := Lib.hid hoq
          have HV9 := Lib.hid hV9
          clear qf jf q0 q1 q2 q3 q4 hq hmq hoq hjx hjn hj9 hr9 hbV9 rf hfr htr her' hcr hV9
          generalize hWq : ((((V9.setCell ⟨w.heap.size, 0, none⟩ (.pointer (some ⟨g, 0, none⟩))).setCell ⟨w.heap.size, 1, none⟩ (.int .i64 fr)).setCell ⟨w.heap.size, 2, none⟩ (.int .i64 tr)).setCell ⟨w.heap.size, 3, none⟩ (.int .i64 er')).setCell ⟨w.heap.size, 4, none⟩ (.int .i64 cr) = Wq at *
          have HWQ := Lib.hid hWq
          clear hWq
          refine wp_region_chain (leV (1) (51) g fr tr er' cr) (leW V9 Wq) (by kernel_rfl) (by kernel_rfl) HV9.out ?_ ?_
          · refine ⟨?_, ?_, ?_, ?_, ?_, ?_, trivial⟩
            · intro x ls hcl hi hd hoff hf
              left
              refine ⟨rfl, ?_⟩
              have e0 : x.tmps.getD 9 undef = .int .i64 (1) := hoff.slot 9 (no_dst (by kernel_rfl))
              go_simp
              exact ⟨rfl, (leW_keep (i := 0) (by decide)).symm⟩
            · intro x ls hcl hi hd hoff hf
              left
              refine ⟨rfl, ?_⟩
              have e0 : x.tmps.getD 10 undef = .pointer (some ⟨k, 0, none⟩) := hoff.slot 10 (no_dst (by kernel_rfl))
              have h4 : ls 4 = false := hcl.no hi rfl rfl
              rw [leW_keep (i := 1) (by decide), leW_no h4]
              go_simp
              first | exact ⟨rfl, rfl⟩ | rfl
            · intro x ls hcl hi hd hoff hf
              left
              refine ⟨rfl, ?_⟩
              have e0 : x.tmps.getD 11 undef = .int .i64 (51) := hoff.slot 11 (no_dst (by kernel_rfl))
              go_simp
              exact ⟨rfl, (leW_keep (i := 2) (by decide)).symm⟩
            · intro x ls hcl hi hd hoff hf
              left
              refine ⟨rfl, ?_⟩
              have e0 : x.tmps.getD 39 undef = .int .i64 (1) := hf 0 _ (hd 0 rfl) rfl
              go_simp
              exact ⟨rfl, (leW_keep (i := 3) (by decide)).symm⟩
            · intro x ls hcl hi hd hoff hf
              left
              refine ⟨rfl, ?_⟩
              have e0 : x.tmps.getD 7 undef = .pointer (some ⟨w.heap.size, 0, none⟩) := hoff.slot 7 (no_dst (by kernel_rfl))
              have e1 : x.tmps.getD 40 undef = .agg #[.pointer (some ⟨g, 0, none⟩), .int .i64 fr, .int .i64 tr, .int .i64 er', .int .i64 cr] := hf 1 _ (hd 1 rfl) rfl
              rw [leW_yes (updB_at ls 4), leW_no hi, ← HWQ.out]
              go_simp
            · intro x ls hcl hi hd hoff hf
              left
              refine ⟨rfl, ?_⟩
              have e0 : x.tmps.getD 41 undef = .int .i64 (51) := hf 2 _ (hd 2 rfl) rfl
              go_simp
              exact ⟨rfl, (leW_keep (i := 5) (by decide)).symm⟩
          intro x ls hl hoff hf
          have e6 : x.tmps.getD 6 undef = .int .i64 (1) := hf 3 _ rfl
          have e8 : x.tmps.getD 8 undef = .int .i64 (51) := hf 5 _ rfl
          rw [leW_yes (hl 4 (by decide))]
          obtain ⟨ys, hys, ha⟩ := off_form hoff (mask := [false, false, false, false, false, false, true, false, true, false, false, false, false, false, false, false, false, false, false, false, false, false, false, false, false, false, false, false, false, false, false, false, false, false, false, false, false, false, false, true, true, true]) (by kernel_rfl)
          rw [hys] at e6 e8
          subst ha
          simp only [fillFrom, Nat.zero_add, Nat.reduceAdd] at *
          rw [e6, e8]
          clear e6 e8 hys hoff hf hl
          rename_i hKK
          refine hKK _ _ ?_
          clear hKK
          go_wp2_with fail
          refine bodyPost_ret (v := .tuple #[.int .i64 (1), .agg #[.pointer (some ⟨g, 0, none⟩), .int .i64 fr, .int .i64 tr, .int .i64 er', .int .i64 cr], .int .i64 (51)]) (by simp [results, Try.results52, go_sem, HQ0.out, HQ1.out, HQ2.out, HQ3.out, HQ4.out]) rfl ?_
          obtain ⟨⟨hfr, htr⟩, her', hcr⟩ := HFR.out
          refine ⟨?_, ?_, HOQ.out⟩
          · rw [HL.out.1, HLE.out, HL.out.2.1, hfr, htr, her', hcr]; rfl
          · rw [HL.out.2.1]; exact HMQ.out
        · have HN2 := Lib.hid fun W => noRoom_no er2 W (fun h => hfl2 (.inl h)) (fun h => hfl2 (.inr h))
          have hlE : layE d 0 en cn b (batB P) = er2 := by rw [HL.out.2.2]; rw [if_neg (show ¬ full _ by rw [← HER2.out]; exact hfl2)]; exact HER2.out.symm
          have HLE := Lib.hid hlE
          clear hfl2 hlE
          refine (HN2.out _).mono ?_
          rintro e W7 ⟨rfl, rfl⟩
          clear HN2
          go_wp2_with fail
          have hjx := HJ6.out
          have hjn := hjx.2.1
          obtain ⟨fr, hfr⟩ : ∃ z : Int, z = (((areaJ d 1 0 0).app (batB P)).fr : Int) * 64 := ⟨_, rfl⟩
          obtain ⟨tr, htr⟩ : ∃ z : Int, z = (((areaJ d 1 0 0).app (batB P)).to : Int) * 64 := ⟨_, rfl⟩
          obtain ⟨er', her'⟩ : ∃ z : Int, z = (((areaJ d 1 0 0).app (batB P)).en : Int) := ⟨_, rfl⟩
          obtain ⟨cr, hcr⟩ : ∃ z : Int, z = (((areaJ d 1 0 0).app (batB P)).cn : Int) := ⟨_, rfl⟩
          rw [← hfr, ← htr, ← her', ← hcr] at hjn
          obtain ⟨V9, hV9⟩ : ∃ V, V = W6.drew := ⟨_, rfl⟩
          have hbV9 : Below W6.heap.size W6 V9 := by rw [hV9]; exact (Below.refl _ _).drew
          have hj9 := hjn.below hbV9
          have hr9 := (hbV9.block w.heap.size (Array.getElem?_eq_some_iff.1 HR6.out).1).trans HR6.out
          obtain ⟨hq, hmq, hoq⟩ := jm_result (hjx.below hbV9) hr9 rfl hw0 (HO6.out.trans (OthersD.below hbV9)) fr tr er' cr hfr htr her' hcr _ rfl
          have HFR := Lib.hid (And.intro (And.intro hfr htr) (And.intro her' hcr))
          rw [← hfr, ← htr, ← her', ← hcr] at hq
          unfold jcs at hq
          obtain ⟨q0, q1, q2, q3, q4, qf⟩ := jn5 hq
          obtain ⟨j0, j1, j2, j3, j4, jf⟩ := jn_cells hj9
          obtain ⟨r0, r1, r2, r3, r4, rf⟩ := jn5 (show V9.heap[w.heap.size]? = some (.cells #[.pointer none, .int .i64 0, .int .i64 0, .int .i64 0, .int .i64 0] 76 (0, 0)) from hr9)
          have rf0 := rf 0
          have rf1 := rf 1
          have rf2 := rf 2
          have rf3 := rf 3
          have rf4 := rf 4
          have HQ0 := Lib.hid q0
          have HQ1 := Lib.hid q1
          have HQ2 := Lib.hid q2
          have HQ3 := Lib.hid q3
          have HQ4 := Lib.hid q4
          have HMQ := Lib.hid hmq
          have HOQ := Lib.hid hoq
          have HV9 := Lib.hid hV9
          clear qf jf q0 q1 q2 q3 q4 hq hmq hoq hjx hjn hj9 hr9 hbV9 rf hfr htr her' hcr hV9
          generalize hWq : ((((V9.setCell ⟨w.heap.size, 0, none⟩ (.pointer (some ⟨g, 0, none⟩))).setCell ⟨w.heap.size, 1, none⟩ (.int .i64 fr)).setCell ⟨w.heap.size, 2, none⟩ (.int .i64 tr)).setCell ⟨w.heap.size, 3, none⟩ (.int .i64 er')).setCell ⟨w.heap.size, 4, none⟩ (.int .i64 cr) = Wq at *
          have HWQ := Lib.hid hWq
          clear hWq
          refine wp_region_chain (leV (1) (er2) g fr tr er' cr) (leW V9 Wq) (by kernel_rfl) (by kernel_rfl) HV9.out ?_ ?_
          · refine ⟨?_, ?_, ?_, ?_, ?_, ?_, trivial⟩
            · intro x ls hcl hi hd hoff hf
              left
              refine ⟨rfl, ?_⟩
              have e0 : x.tmps.getD 9 undef = .int .i64 (1) := hoff.slot 9 (no_dst (by kernel_rfl))
              go_simp
              exact ⟨rfl, (leW_keep (i := 0) (by decide)).symm⟩
            · intro x ls hcl hi hd hoff hf
              left
              refine ⟨rfl, ?_⟩
              have e0 : x.tmps.getD 10 undef = .pointer (some ⟨k, 0, none⟩) := hoff.slot 10 (no_dst (by kernel_rfl))
              have h4 : ls 4 = false := hcl.no hi rfl rfl
              rw [leW_keep (i := 1) (by decide), leW_no h4]
              go_simp
              first | exact ⟨rfl, rfl⟩ | rfl
            · intro x ls hcl hi hd hoff hf
              left
              refine ⟨rfl, ?_⟩
              have e0 : x.tmps.getD 11 undef = .int .i64 (er2) := hoff.slot 11 (no_dst (by kernel_rfl))
              go_simp
              exact ⟨rfl, (leW_keep (i := 2) (by decide)).symm⟩
            · intro x ls hcl hi hd hoff hf
              left
              refine ⟨rfl, ?_⟩
              have e0 : x.tmps.getD 39 undef = .int .i64 (1) := hf 0 _ (hd 0 rfl) rfl
              go_simp
              exact ⟨rfl, (leW_keep (i := 3) (by decide)).symm⟩
            · intro x ls hcl hi hd hoff hf
              left
              refine ⟨rfl, ?_⟩
              have e0 : x.tmps.getD 7 undef = .pointer (some ⟨w.heap.size, 0, none⟩) := hoff.slot 7 (no_dst (by kernel_rfl))
              have e1 : x.tmps.getD 40 undef = .agg #[.pointer (some ⟨g, 0, none⟩), .int .i64 fr, .int .i64 tr, .int .i64 er', .int .i64 cr] := hf 1 _ (hd 1 rfl) rfl
              rw [leW_yes (updB_at ls 4), leW_no hi, ← HWQ.out]
              go_simp
            · intro x ls hcl hi hd hoff hf
              left
              refine ⟨rfl, ?_⟩
              have e0 : x.tmps.getD 41 undef = .int .i64 (er2) := hf 2 _ (hd 2 rfl) rfl
              go_simp
              exact ⟨rfl, (leW_keep (i := 5) (by decide)).symm⟩
          intro x ls hl hoff hf
          have e6 : x.tmps.getD 6 undef = .int .i64 (1) := hf 3 _ rfl
          have e8 : x.tmps.getD 8 undef = .int .i64 (er2) := hf 5 _ rfl
          rw [leW_yes (hl 4 (by decide))]
          obtain ⟨ys, hys, ha⟩ := off_form hoff (mask := [false, false, false, false, false, false, true, false, true, false, false, false, false, false, false, false, false, false, false, false, false, false, false, false, false, false, false, false, false, false, false, false, false, false, false, false, false, false, false, true, true, true]) (by kernel_rfl)
          rw [hys] at e6 e8
          subst ha
          simp only [fillFrom, Nat.zero_add, Nat.reduceAdd] at *
          rw [e6, e8]
          clear e6 e8 hys hoff hf hl
          rename_i hKK
          refine hKK _ _ ?_
          clear hKK
          go_wp2_with fail
          refine bodyPost_ret (v := .tuple #[.int .i64 (1), .agg #[.pointer (some ⟨g, 0, none⟩), .int .i64 fr, .int .i64 tr, .int .i64 er', .int .i64 cr], .int .i64 (er2)]) (by simp [results, Try.results52, go_sem, HQ0.out, HQ1.out, HQ2.out, HQ3.out, HQ4.out]) rfl ?_
          obtain ⟨⟨hfr, htr⟩, her', hcr⟩ := HFR.out
          refine ⟨?_, ?_, HOQ.out⟩
          · rw [HL.out.1, HLE.out, HL.out.2.1, hfr, htr, her', hcr]; rfl
          · rw [HL.out.2.1]; exact HMQ.out
      · obtain ⟨hJ4, ho4⟩ := jm_reset HJ3.out F0 T0 0 0 (areaJ d 0 0 0) rfl HFF.out.1.1 (by rw [HFF.out.1.2]; show _ = ((frA d.last.length 0 + hlf d.last.length : Nat) : Int) * 64; rw [Int.natCast_add]) rfl rfl
        have HJ4 := Lib.hid hJ4
        have HO4 := Lib.hid (HOD.out.j ho4 (Nat.le_of_lt hk0))
        have HR4 := Lib.hid (ho4.2 w.heap.size _ 76 (0, 0) HR2.out (by decide) (by decide) (by decide) (by omega))
        clear hJ4 ho4
        go_wp2_with (go_at_call 79; refine (HN1.out _).mono ?_; rintro e W3 ⟨rfl, rfl⟩)
        clear k0 k1 k2 k3 k4 kf0 kf1 kf2 kf3 kf4 s7 s8 s9 s10 s11 s12 s13 s14 s15 s16 HN1 HJ3 HR2 HOD HST2
        generalize ((((W2.setCell ⟨k, 0, none⟩ (.pointer (some ⟨g, 0, none⟩))).setCell ⟨k, 1, none⟩ (.int .i64 F0)).setCell ⟨k, 2, none⟩ (.int .i64 T0)).setCell ⟨k, 3, none⟩ (.int .i64 0)).setCell ⟨k, 4, none⟩ (.int .i64 0) = W4 at *
        have HBO := Lib.hid (bytesOf_any A2 n2 c2 P W4 (hc_othersD HHP.out HO4.out) hPs HPV.out)
        refine HBO.out.mono ?_
        rintro e W5 ⟨A5, n5, c5, rfl, ho5, hb5⟩
        have hh5 := Hold.of_own ho5
        have hn5 := hh5.1
        rw [batB_length] at hn5
        have HAP := Lib.hid (append_jmJ (HJ4.out.below hb5) HJ2.out A5 n5 c5 (batB P) hh5 (by omega) hbuf)
        have HO5 := Lib.hid (HO4.out.trans (OthersD.below hb5))
        have HR5 := Lib.hid ((hb5.block w.heap.size (Array.getElem?_eq_some_iff.1 HR4.out).1).trans HR4.out)
        clear ho5 hb5 hh5 hn5 HBO HO4 HR4 HJ4
        go_wp2_with (go_at_call 78; refine HAP.out.mono ?_; rintro e W6 ⟨rfl, hj6, ho6⟩; have HJ6 := Lib.hid hj6; have HO6 := Lib.hid (HO5.out.j ho6 (Nat.le_of_lt hk0)); have HR6 := Lib.hid (ho6.2 w.heap.size _ 76 (0, 0) HR5.out (by decide) (by decide) (by decide) (by omega)); clear hj6 ho6 HO5 HR5 HAP)
        obtain ⟨er2, her2⟩ : ∃ z, z = (areaJ d 0 0 0).err (batB P) := ⟨_, rfl⟩
        rw [← her2]
        have HER2 := Lib.hid her2
        clear her2
        by_cases hfl2 : er2 = 51 ∨ er2 = 3
        · have HN2 := Lib.hid fun W => noRoom_yes er2 W hfl2
          have hlE : layE d 1 en cn b (batB P) = 51 := by rw [HL.out.2.2]; rw [if_pos (show full _ by rw [← HER2.out]; exact hfl2)]
          have HLE := Lib.hid hlE
          clear hfl2 hlE
          refine (HN2.out _).mono ?_
          rintro e W7 ⟨rfl, rfl⟩
          clear HN2
          go_wp2_with fail
          have hjx := HJ6.out
          have hjn := hjx.2.1
          obtain ⟨fr, hfr⟩ : ∃ z : Int, z = (((areaJ d 0 0 0).app (batB P)).fr : Int) * 64 := ⟨_, rfl⟩
          obtain ⟨tr, htr⟩ : ∃ z : Int, z = (((areaJ d 0 0 0).app (batB P)).to : Int) * 64 := ⟨_, rfl⟩
          obtain ⟨er', her'⟩ : ∃ z : Int, z = (((areaJ d 0 0 0).app (batB P)).en : Int) := ⟨_, rfl⟩
          obtain ⟨cr, hcr⟩ : ∃ z : Int, z = (((areaJ d 0 0 0).app (batB P)).cn : Int) := ⟨_, rfl⟩
          rw [← hfr, ← htr, ← her', ← hcr] at hjn
          obtain ⟨V9, hV9⟩ : ∃ V, V = W6.drew := ⟨_, rfl⟩
          have hbV9 : Below W6.heap.size W6 V9 := by rw [hV9]; exact (Below.refl _ _).drew
          have hj9 := hjn.below hbV9
          have hr9 := (hbV9.block w.heap.size (Array.getElem?_eq_some_iff.1 HR6.out).1).trans HR6.out
          obtain ⟨hq, hmq, hoq⟩ := jm_result (hjx.below hbV9) hr9 rfl hw0 (HO6.out.trans (OthersD.below hbV9)) fr tr er' cr hfr htr her' hcr _ rfl
          have HFR := Lib.hid (And.intro (And.intro hfr htr) (And.intro her' hcr))
          rw [← hfr, ← htr, ← her', ← hcr] at hq
          unfold jcs at hq
          obtain ⟨q0, q1, q2, q3, q4, qf⟩ := jn5 hq
          obtain ⟨j0, j1, j2, j3, j4, jf⟩ := jn_cells hj9
          obtain ⟨r0, r1, r2, r3, r4, rf⟩ := jn5 (show V9.heap[w.heap.size]? = some (.cells #[.pointer none, .int .i64 0, .int .i64 0, .int .i64 0, .int .i64 0] 76 (0, 0)) from hr9)
          have rf0 := rf 0
          have rf1 := rf 1
          have rf2 := rf 2
          have rf3 := rf 3
          have rf4 := rf 4
          have HQ0 := Lib.hid q0
          have HQ1 := Lib.hid q1
          have HQ2 := Lib.hid q2
          have HQ3 := Lib.hid q3
          have HQ4 := Lib.hid q4
          have HMQ := Lib.hid hmq
          have HOQ := Lib.hid hoq
          have HV9 := Lib.hid hV9
          clear qf jf q0 q1 q2 q3 q4 hq hmq hoq hjx hjn hj9 hr9 hbV9 rf hfr htr her' hcr hV9
          generalize hWq : ((((V9.setCell ⟨w.heap.size, 0, none⟩ (.pointer (some ⟨g, 0, none⟩))).setCell ⟨w.heap.size, 1, none⟩ (.int .i64 fr)).setCell ⟨w.heap.size, 2, none⟩ (.int .i64 tr)).setCell ⟨w.heap.size, 3, none⟩ (.int .i64 er')).setCell ⟨w.heap.size, 4, none⟩ (.int .i64 cr) = Wq at *
          have HWQ := Lib.hid hWq
          clear hWq
          refine wp_region_chain (leV (0) (51) g fr tr er' cr) (leW V9 Wq) (by kernel_rfl) (by kernel_rfl) HV9.out ?_ ?_
          · refine ⟨?_, ?_, ?_, ?_, ?_, ?_, trivial⟩
            · intro x ls hcl hi hd hoff hf
              left
              refine ⟨rfl, ?_⟩
              have e0 : x.tmps.getD 9 undef = .int .i64 (0) := hoff.slot 9 (no_dst (by kernel_rfl))
              go_simp
              exact ⟨rfl, (leW_keep (i := 0) (by decide)).symm⟩
            · intro x ls hcl hi hd hoff hf
              left
              refine ⟨rfl, ?_⟩
              have e0 : x.tmps.getD 10 undef = .pointer (some ⟨k, 0, none⟩) := hoff.slot 10 (no_dst (by kernel_rfl))
              have h4 : ls 4 = false := hcl.no hi rfl rfl
              rw [leW_keep (i := 1) (by decide), leW_no h4]
              go_simp
              first | exact ⟨rfl, rfl⟩ | rfl
            · intro x ls hcl hi hd hoff hf
              left
              refine ⟨rfl, ?_⟩
              have e0 : x.tmps.getD 11 undef = .int .i64 (51) := hoff.slot 11 (no_dst (by kernel_rfl))
              go_simp
              exact ⟨rfl, (leW_keep (i := 2) (by decide)).symm⟩
            · intro x ls hcl hi hd hoff hf
              left
              refine ⟨rfl, ?_⟩
              have e0 : x.tmps.getD 39 undef = .int .i64 (0) := hf 0 _ (hd 0 rfl) rfl
              go_simp
              exact ⟨rfl, (leW_keep (i := 3) (by decide)).symm⟩
            · intro x ls hcl hi hd hoff hf
              left
              refine ⟨rfl, ?_⟩
              have e0 : x.tmps.getD 7 undef = .pointer (some ⟨w.heap.size, 0, none⟩) := hoff.slot 7 (no_dst (by kernel_rfl))
              have e1 : x.tmps.getD 40 undef = .agg #[.pointer (some ⟨g, 0, none⟩), .int .i64 fr, .int .i64 tr, .int .i64 er', .int .i64 cr] := hf 1 _ (hd 1 rfl) rfl
              rw [leW_yes (updB_at ls 4), leW_no hi, ← HWQ.out]
              go_simp
            · intro x ls hcl hi hd hoff hf
              left
              refine ⟨rfl, ?_⟩
              have e0 : x.tmps.getD 41 undef = .int .i64 (51) := hf 2 _ (hd 2 rfl) rfl
              go_simp
              exact ⟨rfl, (leW_keep (i := 5) (by decide)).symm⟩
          intro x ls hl hoff hf
          have e6 : x.tmps.getD 6 undef = .int .i64 (0) := hf 3 _ rfl
          have e8 : x.tmps.getD 8 undef = .int .i64 (51) := hf 5 _ rfl
          rw [leW_yes (hl 4 (by decide))]
          obtain ⟨ys, hys, ha⟩ := off_form hoff (mask := [false, false, false, false, false, false, true, false, true, false, false, false, false, false, false, false, false, false, false, false, false, false, false, false, false, false, false, false, false, false, false, false, false, false, false, false, false, false, false, true, true, true]) (by kernel_rfl)
          rw [hys] at e6 e8
          subst ha
          simp only [fillFrom, Nat.zero_add, Nat.reduceAdd] at *
          rw [e6, e8]
          clear e6 e8 hys hoff hf hl
          rename_i hKK
          refine hKK _ _ ?_
          clear hKK
          go_wp2_with fail
          refine bodyPost_ret (v := .tuple #[.int .i64 (0), .agg #[.pointer (some ⟨g, 0, none⟩), .int .i64 fr, .int .i64 tr, .int .i64 er', .int .i64 cr], .int .i64 (51)]) (by simp [results, Try.results52, go_sem, HQ0.out, HQ1.out, HQ2.out, HQ3.out, HQ4.out]) rfl ?_
          obtain ⟨⟨hfr, htr⟩, her', hcr⟩ := HFR.out
          refine ⟨?_, ?_, HOQ.out⟩
          · rw [HL.out.1, HLE.out, HL.out.2.1, hfr, htr, her', hcr]; rfl
          · rw [HL.out.2.1]; exact HMQ.out
        · have HN2 := Lib.hid fun W => noRoom_no er2 W (fun h => hfl2 (.inl h)) (fun h => hfl2 (.inr h))
          have hlE : layE d 1 en cn b (batB P) = er2 := by rw [HL.out.2.2]; rw [if_neg (show ¬ full _ by rw [← HER2.out]; exact hfl2)]; exact HER2.out.symm
          have HLE := Lib.hid hlE
          clear hfl2 hlE
          refine (HN2.out _).mono ?_
          rintro e W7 ⟨rfl, rfl⟩
          clear HN2
          go_wp2_with fail
          have hjx := HJ6.out
          have hjn := hjx.2.1
          obtain ⟨fr, hfr⟩ : ∃ z : Int, z = (((areaJ d 0 0 0).app (batB P)).fr : Int) * 64 := ⟨_, rfl⟩
          obtain ⟨tr, htr⟩ : ∃ z : Int, z = (((areaJ d 0 0 0).app (batB P)).to : Int) * 64 := ⟨_, rfl⟩
          obtain ⟨er', her'⟩ : ∃ z : Int, z = (((areaJ d 0 0 0).app (batB P)).en : Int) := ⟨_, rfl⟩
          obtain ⟨cr, hcr⟩ : ∃ z : Int, z = (((areaJ d 0 0 0).app (batB P)).cn : Int) := ⟨_, rfl⟩
          rw [← hfr, ← htr, ← her', ← hcr] at hjn
          obtain ⟨V9, hV9⟩ : ∃ V, V = W6.drew := ⟨_, rfl⟩
          have hbV9 : Below W6.heap.size W6 V9 := by rw [hV9]; exact (Below.refl _ _).drew
          have hj9 := hjn.below hbV9
          have hr9 := (hbV9.block w.heap.size (Array.getElem?_eq_some_iff.1 HR6.out).1).trans HR6.out
          obtain ⟨hq, hmq, hoq⟩ := jm_result (hjx.below hbV9) hr9 rfl hw0 (HO6.out.trans (OthersD.below hbV9)) fr tr er' cr hfr htr her' hcr _ rfl
          have HFR := Lib.hid (And.intro (And.intro hfr htr) (And.intro her' hcr))
          rw [← hfr, ← htr, ← her', ← hcr] at hq
          unfold jcs at hq
          obtain ⟨q0, q1, q2, q3, q4, qf⟩ := jn5 hq
          obtain ⟨j0, j1, j2, j3, j4, jf⟩ := jn_cells hj9
          obtain ⟨r0, r1, r2, r3, r4, rf⟩ := jn5 (show V9.heap[w.heap.size]? = some (.cells #[.pointer none, .int .i64 0, .int .i64 0, .int .i64 0, .int .i64 0] 76 (0, 0)) from hr9)
          have rf0 := rf 0
          have rf1 := rf 1
          have rf2 := rf 2
          have rf3 := rf 3
          have rf4 := rf 4
          have HQ0 := Lib.hid q0
          have HQ1 := Lib.hid q1
          have HQ2 := Lib.hid q2
          have HQ3 := Lib.hid q3
          have HQ4 := Lib.hid q4
          have HMQ := Lib.hid hmq
          have HOQ := Lib.hid hoq
          have HV9 := Lib.hid hV9
          clear qf jf q0 q1 q2 q3 q4 hq hmq hoq hjx hjn hj9 hr9 hbV9 rf hfr htr her' hcr hV9
          generalize hWq : ((((V9.setCell ⟨w.heap.size, 0, none⟩ (.pointer (some ⟨g, 0, none⟩))).setCell ⟨w.heap.size, 1, none⟩ (.int .i64 fr)).setCell ⟨w.heap.size, 2, none⟩ (.int .i64 tr)).setCell ⟨w.heap.size, 3, none⟩ (.int .i64 er')).setCell ⟨w.heap.size, 4, none⟩ (.int .i64 cr) = Wq at *
          have HWQ := Lib.hid hWq
          clear hWq
          refine wp_region_chain (leV (0) (er2) g fr tr er' cr) (leW V9 Wq) (by kernel_rfl) (by kernel_rfl) HV9.out ?_ ?_
          · refine ⟨?_, ?_, ?_, ?_, ?_, ?_, trivial⟩
            · intro x ls hcl hi hd hoff hf
              left
              refine ⟨rfl, ?_⟩
              have e0 : x.tmps.getD 9 undef = .int .i64 (0) := hoff.slot 9 (no_dst (by kernel_rfl))
              go_simp
              exact ⟨rfl, (leW_keep (i := 0) (by decide)).symm⟩
            · intro x ls hcl hi hd hoff hf
              left
              refine ⟨rfl, ?_⟩
              have e0 : x.tmps.getD 10 undef = .pointer (some ⟨k, 0, none⟩) := hoff.slot 10 (no_dst (by kernel_rfl))
              have h4 : ls 4 = false := hcl.no hi rfl rfl
              rw [leW_keep (i := 1) (by decide), leW_no h4]
              go_simp
              first | exact ⟨rfl, rfl⟩ | rfl
            · intro x ls hcl hi hd hoff hf
              left
              refine ⟨rfl, ?_⟩
              have e0 : x.tmps.getD 11 undef = .int .i64 (er2) := hoff.slot 11 (no_dst (by kernel_rfl))
              go_simp
              exact ⟨rfl, (leW_keep (i := 2) (by decide)).symm⟩
            · intro x ls hcl hi hd hoff hf
              left
              refine ⟨rfl, ?_⟩
              have e0 : x.tmps.getD 39 undef = .int .i64 (0) := hf 0 _ (hd 0 rfl) rfl
              go_simp
              exact ⟨rfl, (leW_keep (i := 3) (by decide)).symm⟩
            · intro x ls hcl hi hd hoff hf
              left
              refine ⟨rfl, ?_⟩
              have e0 : x.tmps.getD 7 undef = .pointer (some ⟨w.heap.size, 0, none⟩) := hoff.slot 7 (no_dst (by kernel_rfl))
              have e1 : x.tmps.getD 40 undef = .agg #[.pointer (some ⟨g, 0, none⟩), .int .i64 fr, .int .i64 tr, .int .i64 er', .int .i64 cr] := hf 1 _ (hd 1 rfl) rfl
              rw [leW_yes (updB_at ls 4), leW_no hi, ← HWQ.out]
              go_simp
            · intro x ls hcl hi hd hoff hf
              left
              refine ⟨rfl, ?_⟩
              have e0 : x.tmps.getD 41 undef = .int .i64 (er2) := hf 2 _ (hd 2 rfl) rfl
              go_simp
              exact ⟨rfl, (leW_keep (i := 5) (by decide)).symm⟩
          intro x ls hl hoff hf
          have e6 : x.tmps.getD 6 undef = .int .i64 (0) := hf 3 _ rfl
          have e8 : x.tmps.getD 8 undef = .int .i64 (er2) := hf 5 _ rfl
          rw [leW_yes (hl 4 (by decide))]
          obtain ⟨ys, hys, ha⟩ := off_form hoff (mask := [false, false, false, false, false, false, true, false, true, false, false, false, false, false, false, false, false, false, false, false, false, false, false, false, false, false, false, false, false, false, false, false, false, false, false, false, false, false, false, true, true, true]) (by kernel_rfl)
          rw [hys] at e6 e8
          subst ha
          simp only [fillFrom, Nat.zero_add, Nat.reduceAdd] at *
          rw [e6, e8]
          clear e6 e8 hys hoff hf hl
          rename_i hKK
          refine hKK _ _ ?_
          clear hKK
          go_wp2_with fail
          refine bodyPost_ret (v := .tuple #[.int .i64 (0), .agg #[.pointer (some ⟨g, 0, none⟩), .int .i64 fr, .int .i64 tr, .int .i64 er', .int .i64 cr], .int .i64 (er2)]) (by simp [results, Try.results52, go_sem, HQ0.out, HQ1.out, HQ2.out, HQ3.out, HQ4.out]) rfl ?_
          obtain ⟨⟨hfr, htr⟩, her', hcr⟩ := HFR.out
          refine ⟨?_, ?_, HOQ.out⟩
          · rw [HL.out.1, HLE.out, HL.out.2.1, hfr, htr, her', hcr]; rfl
          · rw [HL.out.2.1]; exact HMQ.out
    · have HN1 := Lib.hid fun W => noRoom_no er1 W (fun h => hfl (.inl h)) (fun h => hfl (.inr h))
      have hlA : layA d a en cn b = a := by unfold layA; rw [if_neg (show ¬ full _ by rw [← HER.out]; exact hfl)]
      have hlJ : layJ d a en cn b (batB P) = (areaJ d a en cn).app b := by unfold layJ; rw [if_neg (show ¬ full _ by rw [← HER.out]; exact hfl)]
      have hlE : layE d a en cn b (batB P) = er1 := by unfold layE; rw [if_neg (show ¬ full _ by rw [← HER.out]; exact hfl)]; exact HER.out.symm
      have HL := Lib.hid (And.intro hlA (And.intro hlJ hlE))
      clear hfl hlA hlJ hlE
      go_wp2_with (go_at_call 79; refine (HN1.out _).mono ?_; rintro e W3 ⟨rfl, rfl⟩)
      clear HN1
      have hjx := HJ2'.out
      have hjn := hjx.2.1
      obtain ⟨fr, hfr⟩ : ∃ z : Int, z = (((areaJ d a en cn).app b).fr : Int) * 64 := ⟨_, rfl⟩
      obtain ⟨tr, htr⟩ : ∃ z : Int, z = (((areaJ d a en cn).app b).to : Int) * 64 := ⟨_, rfl⟩
      obtain ⟨er', her'⟩ : ∃ z : Int, z = (((areaJ d a en cn).app b).en : Int) := ⟨_, rfl⟩
      obtain ⟨cr, hcr⟩ : ∃ z : Int, z = (((areaJ d a en cn).app b).cn : Int) := ⟨_, rfl⟩
      rw [← hfr, ← htr, ← her', ← hcr] at hjn
      obtain ⟨V9, hV9⟩ : ∃ V, V = W2.drew := ⟨_, rfl⟩
      have hbV9 : Below W2.heap.size W2 V9 := by rw [hV9]; exact (Below.refl _ _).drew
      have hj9 := hjn.below hbV9
      have hr9 := (hbV9.block w.heap.size (Array.getElem?_eq_some_iff.1 HR2.out).1).trans HR2.out
      obtain ⟨hq, hmq, hoq⟩ := jm_result (hjx.below hbV9) hr9 rfl hw0 (HOD.out.trans (OthersD.below hbV9)) fr tr er' cr hfr htr her' hcr _ rfl
      have HFR := Lib.hid (And.intro (And.intro hfr htr) (And.intro her' hcr))
      rw [← hfr, ← htr, ← her', ← hcr] at hq
      unfold jcs at hq
      obtain ⟨q0, q1, q2, q3, q4, qf⟩ := jn5 hq
      obtain ⟨j0, j1, j2, j3, j4, jf⟩ := jn_cells hj9
      obtain ⟨r0, r1, r2, r3, r4, rf⟩ := jn5 (show V9.heap[w.heap.size]? = some (.cells #[.pointer none, .int .i64 0, .int .i64 0, .int .i64 0, .int .i64 0] 76 (0, 0)) from hr9)
      have rf0 := rf 0
      have rf1 := rf 1
      have rf2 := rf 2
      have rf3 := rf 3
      have rf4 := rf 4
      have HQ0 := Lib.hid q0
      have HQ1 := Lib.hid q1
      have HQ2 := Lib.hid q2
      have HQ3 := Lib.hid q3
      have HQ4 := Lib.hid q4
      have HMQ := Lib.hid hmq
      have HOQ := Lib.hid hoq
      have HV9 := Lib.hid hV9
      clear qf jf q0 q1 q2 q3 q4 hq hmq hoq hjx hjn hj9 hr9 hbV9 rf hfr htr her' hcr hV9
      generalize hWq : ((((V9.setCell ⟨w.heap.size, 0, none⟩ (.pointer (some ⟨g, 0, none⟩))).setCell ⟨w.heap.size, 1, none⟩ (.int .i64 fr)).setCell ⟨w.heap.size, 2, none⟩ (.int .i64 tr)).setCell ⟨w.heap.size, 3, none⟩ (.int .i64 er')).setCell ⟨w.heap.size, 4, none⟩ (.int .i64 cr) = Wq at *
      have HWQ := Lib.hid hWq
      clear hWq
      refine wp_region_chain (leV ((a : Int)) (er1) g fr tr er' cr) (leW V9 Wq) (by kernel_rfl) (by kernel_rfl) HV9.out ?_ ?_
      · refine ⟨?_, ?_, ?_, ?_, ?_, ?_, trivial⟩
        · intro x ls hcl hi hd hoff hf
          left
          refine ⟨rfl, ?_⟩
          have e0 : x.tmps.getD 9 undef = .int .i64 ((a : Int)) := hoff.slot 9 (no_dst (by kernel_rfl))
          go_simp
          exact ⟨rfl, (leW_keep (i := 0) (by decide)).symm⟩
        · intro x ls hcl hi hd hoff hf
          left
          refine ⟨rfl, ?_⟩
          have e0 : x.tmps.getD 10 undef = .pointer (some ⟨k, 0, none⟩) := hoff.slot 10 (no_dst (by kernel_rfl))
          have h4 : ls 4 = false := hcl.no hi rfl rfl
          rw [leW_keep (i := 1) (by decide), leW_no h4]
          go_simp
          first | exact ⟨rfl, rfl⟩ | rfl
        · intro x ls hcl hi hd hoff hf
          left
          refine ⟨rfl, ?_⟩
          have e0 : x.tmps.getD 11 undef = .int .i64 (er1) := hoff.slot 11 (no_dst (by kernel_rfl))
          go_simp
          exact ⟨rfl, (leW_keep (i := 2) (by decide)).symm⟩
        · intro x ls hcl hi hd hoff hf
          left
          refine ⟨rfl, ?_⟩
          have e0 : x.tmps.getD 39 undef = .int .i64 ((a : Int)) := hf 0 _ (hd 0 rfl) rfl
          go_simp
          exact ⟨rfl, (leW_keep (i := 3) (by decide)).symm⟩
        · intro x ls hcl hi hd hoff hf
          left
          refine ⟨rfl, ?_⟩
          have e0 : x.tmps.getD 7 undef = .pointer (some ⟨w.heap.size, 0, none⟩) := hoff.slot 7 (no_dst (by kernel_rfl))
          have e1 : x.tmps.getD 40 undef = .agg #[.pointer (some ⟨g, 0, none⟩), .int .i64 fr, .int .i64 tr, .int .i64 er', .int .i64 cr] := hf 1 _ (hd 1 rfl) rfl
          rw [leW_yes (updB_at ls 4), leW_no hi, ← HWQ.out]
          go_simp
        · intro x ls hcl hi hd hoff hf
          left
          refine ⟨rfl, ?_⟩
          have e0 : x.tmps.getD 41 undef = .int .i64 (er1) := hf 2 _ (hd 2 rfl) rfl
          go_simp
          exact ⟨rfl, (leW_keep (i := 5) (by decide)).symm⟩
      intro x ls hl hoff hf
      have e6 : x.tmps.getD 6 undef = .int .i64 ((a : Int)) := hf 3 _ rfl
      have e8 : x.tmps.getD 8 undef = .int .i64 (er1) := hf 5 _ rfl
      rw [leW_yes (hl 4 (by decide))]
      obtain ⟨ys, hys, ha⟩ := off_form hoff (mask := [false, false, false, false, false, false, true, false, true, false, false, false, false, false, false, false, false, false, false, false, false, false, false, false, false, false, false, false, false, false, false, false, false, false, false, false, false, false, false, true, true, true]) (by kernel_rfl)
      rw [hys] at e6 e8
      subst ha
      simp only [fillFrom, Nat.zero_add, Nat.reduceAdd] at *
      rw [e6, e8]
      clear e6 e8 hys hoff hf hl
      rename_i hKK
      refine hKK _ _ ?_
      clear hKK
      go_wp2_with fail
      refine bodyPost_ret (v := .tuple #[.int .i64 ((a : Int)), .agg #[.pointer (some ⟨g, 0, none⟩), .int .i64 fr, .int .i64 tr, .int .i64 er', .int .i64 cr], .int .i64 (er1)]) (by simp [results, Try.results52, go_sem, HQ0.out, HQ1.out, HQ2.out, HQ3.out, HQ4.out]) rfl ?_
      obtain ⟨⟨hfr, htr⟩, her', hcr⟩ := HFR.out
      refine ⟨?_, ?_, HOQ.out⟩
      · rw [HL.out.1, HL.out.2.2, HL.out.2.1, hfr, htr, her', hcr]; rfl
      · rw [HL.out.2.1]; exact HMQ.out
end Go.Proofs.Ytbfhlleipeipbaa
