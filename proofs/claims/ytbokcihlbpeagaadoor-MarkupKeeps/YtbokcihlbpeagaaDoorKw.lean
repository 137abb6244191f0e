/-
  What is proved: the walk of the law MarkupKeeps. Conditions: those in each statement.
-/
import Derived.Test.YtbokcihlbpeagaaDoorKe
import Derived.Test.YtbokcihlbpeagaaDoorRw
import Derived.Test.YtbokcihlbpeagaaDoorFn
import Derived.StillTailTactics
namespace Go.Proofs.YtbokcihlbpeagaaDoor
open Go.RowKit

theorem head_cat (s : ByteArray) : ((⟨#[60, 33, 45, 45, 32, 60, 97, 62, 32, 38, 32, 45, 45, 62]⟩ : ByteArray) ++ s).data.toList = head14 ++ s.data.toList := by
  simp [head14]
set_option maxHeartbeats 4000000 in
set_option maxRecDepth 100000 in
/-- a document that the law passes over -/
theorem keeps_long (w : World) (s : ByteArray) (hG : Glob w) (hs : 60000 < s.size) (_hm : s.size ≤ 9223372036854775807) :
    Calls Tryd.prog 4 #[.string s] w fun e w' => e = .returned (.bool true) ∧ Below w.heap.size w w' := by
  have HG := Lib.hid hG
  have HAW := Lib.hid (fun W (hW : Glob W) => awake_any W hW)
  have hz : (60000 : Int) < (s.size : Int) := by omega
  clear hG
  go_enter Tryd.func4, Tryd.ntmps4
  go_wp2_with fail
  refine (HAW.out _ HG.out).mono ?_
  rintro e w1 ⟨rfl, hb1⟩
  have HB1 := Lib.hid hb1
  clear hb1
  go_wp2_with fail
  refine (HAW.out _ (HG.out.below HB1.out HG.out.size)).mono ?_
  rintro e w2 ⟨rfl, hb2⟩
  have HB2 := Lib.hid (HB1.out.trans (hb2.mono HB1.out.size))
  clear hb2
  go_wp2_with fail
  go_ret
  exact ⟨rfl, HB2.out⟩
set_option maxHeartbeats 4000000 in
set_option maxRecDepth 100000 in
theorem keeps_decl (w : World) (s : ByteArray) (hG : Glob w) (hs : s.size ≤ 60000) (h5 : 4 < s.size) (hx : ((s.extract 0 5).toList == ([60, 63, 120, 109, 108] : List UInt8)) = true) :
    Calls Tryd.prog 4 #[.string s] w fun e w' => e = .returned (.bool true) ∧ Below w.heap.size w w' := by
  have HG := Lib.hid hG
  have HAW := Lib.hid (fun W (hW : Glob W) => awake_any W hW)
  have hz : ¬ (60000 : Int) < (s.size : Int) := by omega
  have hz5 : (4 : Int) < (s.size : Int) := by omega
  have hz6 : (5 : Int) ≤ (s.size : Int) := by omega
  have hn6 : 5 ≤ s.size := by omega
  clear hG
  go_enter Tryd.func4, Tryd.ntmps4
  go_wp2_with fail
  refine (HAW.out _ HG.out).mono ?_
  rintro e w1 ⟨rfl, hb1⟩
  have HB1 := Lib.hid hb1
  clear hb1
  go_wp2_with fail
  refine (HAW.out _ (HG.out.below HB1.out HG.out.size)).mono ?_
  rintro e w2 ⟨rfl, hb2⟩
  have HB2 := Lib.hid (HB1.out.trans (hb2.mono HB1.out.size))
  clear hb2
  go_wp2_with fail
  go_ret
  exact ⟨rfl, HB2.out⟩
-- PRINTED FROM HERE
set_option maxHeartbeats 4000000 in
set_option maxRecDepth 100000 in
theorem keeps_badS (w : World) (s : ByteArray) (hG : Glob w) (hs : s.size ≤ 60000) (h5 : s.size ≤ 4) (hpx : Lib.hasPrefix s.data.toList [60, 63, 120, 109, 108] = false) (x : Nat) (c : Int) (hr : resO s.data.toList = .inr (x, c)) (hxs : x < s.size) (hc0 : 0 < c) :
    Calls Tryd.prog 4 #[.string s] w fun e w' => e = .returned (.bool true) ∧ Below w.heap.size w w' := by
  have HG := Lib.hid hG
  have HAW := Lib.hid (fun W (hW : Glob W) => awake_any W hW)
  have HM1 := Lib.hid (fun W (hW : Glob W) => marks_any W s hW)
  have HM2 := Lib.hid (fun W (hW : Glob W) => marks_any W ((⟨#[60, 33, 45, 45, 32, 60, 97, 62, 32, 38, 32, 45, 45, 62]⟩ : ByteArray) ++ s) hW)
  rw [head_cat, resO_head (by rw [size_toList]; exact hs) hpx] at HM2
  rw [hr] at HM1 HM2
  have hz : ¬ (60000 : Int) < (s.size : Int) := by omega
  have hz5 : ¬ (4 : Int) < (s.size : Int) := by omega
  clear hG hpx
  have hr0 := hr
  clear hr
  clear hr0
  simp only at HM1 HM2
  have hcz : (c == 0) = false := beq_eq_false_iff_ne.2 (by omega)
  have hcz2 : (c != 0) = true := bne_iff_ne.2 (by omega)
  have hcc : (c != c) = false := by simp
  have hw14 : wrap64 ((x : Int) + 14) = ((x + 14 : Nat) : Int) := by rw [Go.IntWalk.wrap64_in _ (by omega)]; push_cast; rfl
  clear hc0
  go_enter Tryd.func4, Tryd.ntmps4
  go_wp2_with fail
  refine (HAW.out _ HG.out).mono ?_
  rintro e w1 ⟨rfl, hb1⟩
  have HB1 := Lib.hid hb1
  have HG1 := Lib.hid (HG.out.below hb1 HG.out.size)
  clear hb1
  go_wp2_with fail
  refine (HM1.out _ HG1.out).mono ?_
  rintro e w2 ⟨hb2, rfl⟩
  have HB2 := Lib.hid (HB1.out.trans (hb2.mono HB1.out.size))
  have HG2 := Lib.hid (HG1.out.below hb2 HG1.out.size)
  clear hb2
  go_wp2_with fail
  refine (HM2.out _ HG2.out).mono ?_
  rintro e w3 ⟨hb3, rfl⟩
  have HB3 := Lib.hid (HB2.out.trans (hb3.mono HB2.out.size))
  clear hb3
  go_wp2_with fail
  refine wp_loop_rounds 1 ?_
  rw [rounds_succ]
  go_wp2_with fail
  refine (Same_any _ 0 0 _ _ [] [] (MR.nil _ _) (MR.nil _ _) rfl (by decide)).mono ?_
  rintro e w4 ⟨rfl, hb4⟩
  have HB4 := Lib.hid (HB3.out.trans (hb4.mono HB3.out.size))
  clear hb4
  go_wp2_with fail
  go_ret
  exact ⟨rfl, HB4.out⟩
set_option maxHeartbeats 4000000 in
set_option maxRecDepth 100000 in
theorem keeps_okS (w : World) (s : ByteArray) (hG : Glob w) (hs : s.size ≤ 60000) (h5 : s.size ≤ 4) (hpx : Lib.hasPrefix s.data.toList [60, 63, 120, 109, 108] = false) (ms : List Mk) (hr : resO s.data.toList = .inl ms) :
    Calls Tryd.prog 4 #[.string s] w fun e w' => e = .returned (.bool true) ∧ Below w.heap.size w w' := by
  have HG := Lib.hid hG
  have HAW := Lib.hid (fun W (hW : Glob W) => awake_any W hW)
  have HM1 := Lib.hid (fun W (hW : Glob W) => marks_any W s hW)
  have HM2 := Lib.hid (fun W (hW : Glob W) => marks_any W ((⟨#[60, 33, 45, 45, 32, 60, 97, 62, 32, 38, 32, 45, 45, 62]⟩ : ByteArray) ++ s) hW)
  rw [head_cat, resO_head (by rw [size_toList]; exact hs) hpx] at HM2
  rw [hr] at HM1 HM2
  have hz : ¬ (60000 : Int) < (s.size : Int) := by omega
  have hz5 : ¬ (4 : Int) < (s.size : Int) := by omega
  clear hG hpx
  have hr0 := hr
  clear hr
  have HAT := Lib.hid (resO_at hr0).1
  clear hr0
  simp only at HM1 HM2
  have HS := Lib.hid hs
  go_enter Tryd.func4, Tryd.ntmps4
  go_wp2_with fail
  refine (HAW.out _ HG.out).mono ?_
  rintro e w1 ⟨rfl, hb1⟩
  have HB1 := Lib.hid hb1
  have HG1 := Lib.hid (HG.out.below hb1 HG.out.size)
  clear hb1
  go_wp2_with fail
  refine (HM1.out _ HG1.out).mono ?_
  rintro e w2 ⟨hb2, mv1, B1, zs1, hz1, rfl, -, hmr1⟩
  have HB2 := Lib.hid (HB1.out.trans (hb2.mono HB1.out.size))
  have HG2 := Lib.hid (HG1.out.below hb2 HG1.out.size)
  have HZ1 := Lib.hid hz1
  obtain ⟨A1, n1, c1, rfl⟩ := own_slice3 hmr1.row
  have HN1 := Lib.hid (own_len hmr1.row)
  have HR1 := Lib.hid hmr1
  clear hb2 hz1 hmr1
  go_wp2_with fail
  refine (HM2.out _ HG2.out).mono ?_
  rintro e w3 ⟨hb3, mv2, B2, zs2, hz2, rfl, hB2, hmr2⟩
  have HB3 := Lib.hid (HB2.out.trans (hb3.mono HB2.out.size))
  have HB0 := Lib.hid hb3
  have HBB := Lib.hid hB2
  have HZ2 := Lib.hid hz2
  obtain ⟨A2, n2, c2, rfl⟩ := own_slice3 hmr2.row
  have hn2 := own_len hmr2.row
  have hl1 : zs1.length = ms.length := by have := congrArg List.length HZ1.out; simpa using this
  have hl2 : zs2.length = ms.length := by have := congrArg List.length HZ2.out; simpa using this
  have HR2 := Lib.hid hmr2
  clear hb3 hz2 hmr2 hB2
  have hn1 := HN1.out
  clear HN1
  rw [hl1] at hn1
  rw [hl2] at hn2
  subst hn1 hn2
  generalize hn : ms.length = n at *
  have HN := Lib.hid hn
  have HL1 := Lib.hid hl1
  have HL2 := Lib.hid hl2
  clear hn hl1 hl2
  have hnn : (n != n) = false := by simp
  have hnm : ((n : Int) != (n : Int)) = false := by simp
  go_wp2_with fail

  clear hnn hnm
  have hnmx : n ≤ 9223372036854775807 := by have := HR1.out.max; rw [HL1.out] at this; exact this
  go_loopg [10] n (fun kx v10 wr => ∃ (i : Nat), v10 = .int .i64 (i : Int) ∧ i ≤ n ∧ n - i ≤ kx ∧ Aside (MR wr B2 (.slice A2 n c2) (rowI zs2 i)) ∧ Aside (Below w2.heap.size w2 wr))
  case atStart => exact ⟨0, rfl, Nat.zero_le _, Nat.le_refl _, (by rw [rowI_zero]; exact HR2.out : Aside _), HB0.out⟩
  case round =>
    clear HB3 HR2 HB0
    obtain ⟨i, rfl, hin, hkx, HR, HB⟩ := hrel
    by_cases hlt : i < n
    · have hltz : (i : Int) < (n : Int) := by omega
      have pi : (0 : Int) ≤ (i : Int) := by omega
      have hiz : i < zs2.length := by rw [HL2.out]; exact hlt
      have h1 : MR wr B2 (.slice A2 n c2) ((zs2.take i).map bk1 ++ (zs2[i].1, zs2[i].2) :: zs2.drop (i + 1)) := by rw [← rowI_at hiz]; exact HR
      have hat := HAT.out (zs2[i].1.bk) (by
        have := congrArg (List.map Mk.bk) HZ2.out
        rw [bk_all, List.map_map] at this
        rw [← this]
        exact List.mem_map.2 ⟨zs2[i], List.getElem_mem hiz, rfl⟩)
      have hmv : ∃ m0 : Mk, zs2[i].1 = m0.mv 14 := by
        have hmem : zs2[i].1 ∈ ms.map (Mk.mv 14) := by rw [← HZ2.out]; exact List.mem_map.2 ⟨zs2[i], List.getElem_mem hiz, rfl⟩
        obtain ⟨m0, _, e⟩ := List.mem_map.1 hmem
        exact ⟨m0, e.symm⟩
      have HZK := Lib.hid (rowK_zero zs2 i zs2[i])
      have HZF := Lib.hid (rowK_full hiz)
      have hAl : ((zs2.take i).map bk1).length = i := by rw [List.length_map, List.length_take]; omega
      obtain ⟨g, cg, eA, hg, el, har⟩ := h1.elemA
      rw [hAl] at el
      generalize zs2[i] = z at *
      obtain ⟨m, u⟩ := z
      simp only at el har hat hmv
      injection eA with eA1 eAL eA2
      clear eAL
      subst eA1 eA2
      obtain ⟨m0, rfl⟩ := hmv
      rw [Mk.bk_mv] at hat
      have hma : (m0.mv 14).at_ = m0.at_ + 14 := rfl
      have hw : wrap64 (m0.at_ : Int) = (m0.at_ : Int) := by
        have := hat.1
        rw [size_toList] at this
        have := HS.out
        exact Go.IntWalk.wrap64_in _ (by omega)
      have HSet : Hid (MR (wr.setCells g (((zs2.take i).map bk1).length * 6 + 5) [.int .i64 ((m0.at_ : Nat) : Int)]) B2 (.slice (some ⟨g, 0, none⟩) n c2) (rowK zs2 i 0 (m0.mv 14, u))) := Lib.hid (by
        rw [HZK.out]
        exact h1.set m0.at_)
      rw [hAl] at HSet
      have hAD := hat.2
      obtain ⟨Au, nu, cu, rfl⟩ := own_slice3 har
      have hnu := own_len har
      have hamx := har.len
      rw [show (m0.mv 14).attrs.length = m0.attrs.length by simp [Mk.mv]] at hnu hamx
      subst hnu
      have HSB : Hid (Below w2.heap.size w2 (wr.setCell ⟨g, i * 6 + 5, none⟩ (.int .i64 (m0.at_ : Int)))) := Lib.hid (Below.setCell HB (by show w2.heap.size ≤ g; have := h1.geB; have := HBB.out; omega) _)
      have hfz := h1.frz (j := i * 6 + 5)
      have k5 := el.c5
      rw [hma] at k5
      have HATA := Lib.hid hAD
      have HAl := Lib.hid hAl
      clear hAD hat el h1 har HZK hma hAl HR HB
      go_wp2_with fail

      have HSet2 : Hid (MR (wr.setCell ⟨g, i * 6 + 5, none⟩ (.int .i64 (m0.at_ : Int))) B2 (.slice (some ⟨g, 0, none⟩) n c2) (rowK zs2 i 0 (m0.mv 14, .slice Au m0.attrs.length cu))) := HSet
      clear HSet hfz k5 hg hw
      generalize wr.setCell ⟨g, i * 6 + 5, none⟩ (.int .i64 (m0.at_ : Int)) = W at *
      have HNL : Hid ((m0.mv 14).attrs.length = m0.attrs.length) := Lib.hid (by simp [Mk.mv])
      have HMA : Hid (∀ a ∈ (m0.mv 14).attrs, ∃ a0 ∈ m0.attrs, a = a0.mv 14) := Lib.hid (by
        intro a ha
        obtain ⟨a0, h1, h2⟩ := List.mem_map.1 (show a ∈ m0.attrs.map (At3.mv 14) from ha)
        exact ⟨a0, h1, h2.symm⟩)
      generalize hna : m0.attrs.length = na at *
      have HNA := Lib.hid hna
      clear hna
      generalize hmm : m0.mv 14 = mm at *
      clear hmm
      go_loopg [11] na (fun ky v11 wr => ∃ (k : Nat), v11 = .int .i64 (k : Int) ∧ k ≤ na ∧ na - k ≤ ky ∧ Aside (MR wr B2 (.slice (some ⟨g, 0, none⟩) n c2) (rowK zs2 i k (mm, .slice Au na cu))) ∧ Aside (Below w2.heap.size w2 wr))
      case atStart => exact ⟨0, rfl, Nat.zero_le _, Nat.le_refl _, HSet2.out, HSB.out⟩
      case round =>
        clear HSet2 HSB
        obtain ⟨k, rfl, hkn, hky, HR, HB⟩ := hrel
        have pk : (0 : Int) ≤ (k : Int) := by omega
        by_cases hkl : k < na
        · have hklz : (k : Int) < (na : Int) := by omega
          have hkm : k < mm.attrs.length := by rw [HNL.out]; exact hkl
          obtain ⟨a0, ha0, ea0⟩ := HMA.out mm.attrs[k] (List.getElem_mem hkm)
          have hP : ((mm.attrs.take k).map At3.bk).length = k := by rw [List.length_map, List.length_take]; omega
          have h1 : MR wr B2 (.slice (some ⟨g, 0, none⟩) n c2) ((zs2.take i).map bk1 ++ ({ mm with attrs := (mm.attrs.take k).map At3.bk ++ mm.attrs[k] :: mm.attrs.drop (k + 1), at_ := mm.at_ - 14 }, .slice Au na cu) :: zs2.drop (i + 1)) := by rw [← rowK_split (z := (mm, .slice Au na cu)) hkm]; exact HR
          obtain ⟨g', cg', eA, hg, el, har⟩ := h1.elemA
          rw [HAl.out] at el
          injection eA with eA1 eAL eA2
          injection eA1 with eA1
          injection eA1 with eA1
          clear eAL
          subst eA1 eA2
          obtain ⟨q, cq, eB, hq, q0, q1, q2⟩ := har.elemA
          rw [hP] at q2
          injection eB with eB1 eBL eB2
          clear eBL q0 q1
          subst eB1 eB2
          have hka : mm.attrs[k].at_ = a0.at_ + 14 := by rw [ea0]; rfl
          have hat := HATA.out a0 ha0
          clear ea0 ha0
          have hw : wrap64 (a0.at_ : Int) = (a0.at_ : Int) := by
            rw [size_toList] at hat
            have := HS.out
            exact Go.IntWalk.wrap64_in _ (by omega)
          have HSet : Hid (∀ V : World, V = wr.drew → MR (V.setCell ⟨q, k * 3 + 2, none⟩ (.int .i64 (a0.at_ : Int))) B2 (.slice (some ⟨g, 0, none⟩) n c2) (rowK zs2 i (k + 1) (mm, .slice (some ⟨q, 0, none⟩) na cu))) := Lib.hid (by
            rintro V rfl
            have h2 := MR.setAttr (h1.below (Below.drew (Below.refl _ _))) (P := (mm.attrs.take k).map At3.bk) (a := mm.attrs[k]) (Q := mm.attrs.drop (k + 1)) rfl (a0.at_)
            rw [hP] at h2
            have h3 := rowK_next (zs := zs2) (i := i) (z := (mm, .slice (some ⟨q, 0, none⟩) na cu)) hkm
            simp only at h3
            rw [hka, Nat.add_sub_cancel] at h3
            rw [← h3]
            exact h2)
          have hBq : w2.heap.size ≤ q := by have := har.geB; have := HBB.out; omega
          have HSB : Hid (∀ V : World, V = wr.drew → Below w2.heap.size w2 (V.setCell ⟨q, k * 3 + 2, none⟩ (.int .i64 (a0.at_ : Int)))) := Lib.hid (by rintro V rfl; exact Below.setCell (Below.drew HB) hBq _)
          have hfz := har.frz (j := k * 3 + 2)
          have k2 := el.c2
          rw [hka] at q2
          clear hP h1 el har hka hat hBq HR HB hg hq hkm
          generalize a0.at_ = X at *
          go_wp2_with fail
          go_still_tail 20, (by kernel_rfl)
          go_wp2_with fail
          go_roundg (na - (k + 1))
          case measure => omega
          case rel => exact ⟨k + 1, by go_num, by omega, Nat.le_refl _, HSet.out _ rfl, HSB.out _ rfl⟩
        · obtain rfl : k = na := by omega
          have hklz : ¬ (k : Int) < (k : Int) := by omega
          have h1 : MR wr B2 (.slice (some ⟨g, 0, none⟩) n c2) ((zs2.take i).map bk1 ++ ({ mm with attrs := mm.attrs.map At3.bk, at_ := mm.at_ - 14 }, .slice Au k cu) :: zs2.drop (i + 1)) := by
            have h2 : MR wr B2 (.slice (some ⟨g, 0, none⟩) n c2) (rowK zs2 i k (mm, .slice Au k cu)) := HR
            rw [rowK_end _ _ HNL.out] at h2
            exact h2
          obtain ⟨g', cg', eA, hg, el, har⟩ := h1.elemA
          rw [HAl.out] at el
          injection eA with eA1 eAL eA2
          injection eA1 with eA1
          injection eA1 with eA1
          clear eAL
          subst eA1 eA2
          have k2 := el.c2
          have HRI : Aside (MR wr B2 (.slice (some ⟨g, 0, none⟩) n c2) (rowI zs2 (i + 1))) := by
            have h2 : MR wr B2 (.slice (some ⟨g, 0, none⟩) n c2) (rowK zs2 i k (mm, .slice Au k cu)) := HR
            have h3 := HZF.out
            rw [HNL.out] at h3
            rw [← h3]
            exact h2
          clear h1 el har hg
          go_wp2_with fail
          go_roundg (n - (i + 1))
          case measure => omega
          case rel => exact ⟨i + 1, by go_num, by omega, Nat.le_refl _, HRI, HB⟩
    · obtain rfl : i = n := by omega
      have hltz : ¬ (i : Int) < (i : Int) := by omega
      have he : zs1.map Prod.fst = (rowI zs2 i).map Prod.fst := by
        have h3 := congrArg (List.map Mk.bk) HZ2.out
        rw [bk_all, List.map_map] at h3
        rw [← HL2.out, rowI_full, List.map_map, HZ1.out, ← h3]
        rfl
      have hmx : zs1.length ≤ 9223372036854775807 := HR1.out.max
      have HF := Lib.hid (Same_any wr B1 B2 _ _ zs1 (rowI zs2 i) (HR1.out.below HB) HR he hmx)
      clear he hmx HR
      go_wp2_with fail
      refine HF.out.mono ?_
      rintro e w4 ⟨rfl, hb4⟩
      have HB4 := Lib.hid ((Below.mono HB HB2.out.size : Below w.heap.size w2 wr))
      have HB5 := Lib.hid (HB2.out.trans (HB4.out.trans (hb4.mono HB4.out.size |>.mono (by have := HB2.out.size; have := HB4.out.size; omega))))
      clear hb4
      go_wp2_with fail
      go_ret
      exact ⟨rfl, HB5.out⟩
set_option maxHeartbeats 4000000 in
set_option maxRecDepth 100000 in
theorem keeps_badL (w : World) (s : ByteArray) (hG : Glob w) (hs : s.size ≤ 60000) (h5 : 4 < s.size) (hx : ((s.extract 0 5).toList == ([60, 63, 120, 109, 108] : List UInt8)) = false) (hpx : Lib.hasPrefix s.data.toList [60, 63, 120, 109, 108] = false) (x : Nat) (c : Int) (hr : resO s.data.toList = .inr (x, c)) (hxs : x < s.size) (hc0 : 0 < c) :
    Calls Tryd.prog 4 #[.string s] w fun e w' => e = .returned (.bool true) ∧ Below w.heap.size w w' := by
  have HG := Lib.hid hG
  have HAW := Lib.hid (fun W (hW : Glob W) => awake_any W hW)
  have HM1 := Lib.hid (fun W (hW : Glob W) => marks_any W s hW)
  have HM2 := Lib.hid (fun W (hW : Glob W) => marks_any W ((⟨#[60, 33, 45, 45, 32, 60, 97, 62, 32, 38, 32, 45, 45, 62]⟩ : ByteArray) ++ s) hW)
  rw [head_cat, resO_head (by rw [size_toList]; exact hs) hpx] at HM2
  rw [hr] at HM1 HM2
  have hz : ¬ (60000 : Int) < (s.size : Int) := by omega
  have hz5 : (4 : Int) < (s.size : Int) := by omega
  have hz6 : (5 : Int) ≤ (s.size : Int) := by omega
  have hn6 : 5 ≤ s.size := by omega
  clear hG hpx
  have hr0 := hr
  clear hr
  clear hr0
  simp only at HM1 HM2
  have hcz : (c == 0) = false := beq_eq_false_iff_ne.2 (by omega)
  have hcz2 : (c != 0) = true := bne_iff_ne.2 (by omega)
  have hcc : (c != c) = false := by simp
  have hw14 : wrap64 ((x : Int) + 14) = ((x + 14 : Nat) : Int) := by rw [Go.IntWalk.wrap64_in _ (by omega)]; push_cast; rfl
  clear hc0
  go_enter Tryd.func4, Tryd.ntmps4
  go_wp2_with fail
  refine (HAW.out _ HG.out).mono ?_
  rintro e w1 ⟨rfl, hb1⟩
  have HB1 := Lib.hid hb1
  have HG1 := Lib.hid (HG.out.below hb1 HG.out.size)
  clear hb1
  go_wp2_with fail
  refine (HM1.out _ HG1.out).mono ?_
  rintro e w2 ⟨hb2, rfl⟩
  have HB2 := Lib.hid (HB1.out.trans (hb2.mono HB1.out.size))
  have HG2 := Lib.hid (HG1.out.below hb2 HG1.out.size)
  clear hb2
  go_wp2_with fail
  refine (HM2.out _ HG2.out).mono ?_
  rintro e w3 ⟨hb3, rfl⟩
  have HB3 := Lib.hid (HB2.out.trans (hb3.mono HB2.out.size))
  clear hb3
  go_wp2_with fail
  refine wp_loop_rounds 1 ?_
  rw [rounds_succ]
  go_wp2_with fail
  refine (Same_any _ 0 0 _ _ [] [] (MR.nil _ _) (MR.nil _ _) rfl (by decide)).mono ?_
  rintro e w4 ⟨rfl, hb4⟩
  have HB4 := Lib.hid (HB3.out.trans (hb4.mono HB3.out.size))
  clear hb4
  go_wp2_with fail
  go_ret
  exact ⟨rfl, HB4.out⟩
set_option maxHeartbeats 4000000 in
set_option maxRecDepth 100000 in
theorem keeps_okL (w : World) (s : ByteArray) (hG : Glob w) (hs : s.size ≤ 60000) (h5 : 4 < s.size) (hx : ((s.extract 0 5).toList == ([60, 63, 120, 109, 108] : List UInt8)) = false) (hpx : Lib.hasPrefix s.data.toList [60, 63, 120, 109, 108] = false) (ms : List Mk) (hr : resO s.data.toList = .inl ms) :
    Calls Tryd.prog 4 #[.string s] w fun e w' => e = .returned (.bool true) ∧ Below w.heap.size w w' := by
  have HG := Lib.hid hG
  have HAW := Lib.hid (fun W (hW : Glob W) => awake_any W hW)
  have HM1 := Lib.hid (fun W (hW : Glob W) => marks_any W s hW)
  have HM2 := Lib.hid (fun W (hW : Glob W) => marks_any W ((⟨#[60, 33, 45, 45, 32, 60, 97, 62, 32, 38, 32, 45, 45, 62]⟩ : ByteArray) ++ s) hW)
  rw [head_cat, resO_head (by rw [size_toList]; exact hs) hpx] at HM2
  rw [hr] at HM1 HM2
  have hz : ¬ (60000 : Int) < (s.size : Int) := by omega
  have hz5 : (4 : Int) < (s.size : Int) := by omega
  have hz6 : (5 : Int) ≤ (s.size : Int) := by omega
  have hn6 : 5 ≤ s.size := by omega
  clear hG hpx
  have hr0 := hr
  clear hr
  have HAT := Lib.hid (resO_at hr0).1
  clear hr0
  simp only at HM1 HM2
  have HS := Lib.hid hs
  go_enter Tryd.func4, Tryd.ntmps4
  go_wp2_with fail
  refine (HAW.out _ HG.out).mono ?_
  rintro e w1 ⟨rfl, hb1⟩
  have HB1 := Lib.hid hb1
  have HG1 := Lib.hid (HG.out.below hb1 HG.out.size)
  clear hb1
  go_wp2_with fail
  refine (HM1.out _ HG1.out).mono ?_
  rintro e w2 ⟨hb2, mv1, B1, zs1, hz1, rfl, -, hmr1⟩
  have HB2 := Lib.hid (HB1.out.trans (hb2.mono HB1.out.size))
  have HG2 := Lib.hid (HG1.out.below hb2 HG1.out.size)
  have HZ1 := Lib.hid hz1
  obtain ⟨A1, n1, c1, rfl⟩ := own_slice3 hmr1.row
  have HN1 := Lib.hid (own_len hmr1.row)
  have HR1 := Lib.hid hmr1
  clear hb2 hz1 hmr1
  go_wp2_with fail
  refine (HM2.out _ HG2.out).mono ?_
  rintro e w3 ⟨hb3, mv2, B2, zs2, hz2, rfl, hB2, hmr2⟩
  have HB3 := Lib.hid (HB2.out.trans (hb3.mono HB2.out.size))
  have HB0 := Lib.hid hb3
  have HBB := Lib.hid hB2
  have HZ2 := Lib.hid hz2
  obtain ⟨A2, n2, c2, rfl⟩ := own_slice3 hmr2.row
  have hn2 := own_len hmr2.row
  have hl1 : zs1.length = ms.length := by have := congrArg List.length HZ1.out; simpa using this
  have hl2 : zs2.length = ms.length := by have := congrArg List.length HZ2.out; simpa using this
  have HR2 := Lib.hid hmr2
  clear hb3 hz2 hmr2 hB2
  have hn1 := HN1.out
  clear HN1
  rw [hl1] at hn1
  rw [hl2] at hn2
  subst hn1 hn2
  generalize hn : ms.length = n at *
  have HN := Lib.hid hn
  have HL1 := Lib.hid hl1
  have HL2 := Lib.hid hl2
  clear hn hl1 hl2
  have hnn : (n != n) = false := by simp
  have hnm : ((n : Int) != (n : Int)) = false := by simp
  go_wp2_with fail

  clear hnn hnm
  have hnmx : n ≤ 9223372036854775807 := by have := HR1.out.max; rw [HL1.out] at this; exact this
  go_loopg [10] n (fun kx v10 wr => ∃ (i : Nat), v10 = .int .i64 (i : Int) ∧ i ≤ n ∧ n - i ≤ kx ∧ Aside (MR wr B2 (.slice A2 n c2) (rowI zs2 i)) ∧ Aside (Below w2.heap.size w2 wr))
  case atStart => exact ⟨0, rfl, Nat.zero_le _, Nat.le_refl _, (by rw [rowI_zero]; exact HR2.out : Aside _), HB0.out⟩
  case round =>
    clear HB3 HR2 HB0
    obtain ⟨i, rfl, hin, hkx, HR, HB⟩ := hrel
    by_cases hlt : i < n
    · have hltz : (i : Int) < (n : Int) := by omega
      have pi : (0 : Int) ≤ (i : Int) := by omega
      have hiz : i < zs2.length := by rw [HL2.out]; exact hlt
      have h1 : MR wr B2 (.slice A2 n c2) ((zs2.take i).map bk1 ++ (zs2[i].1, zs2[i].2) :: zs2.drop (i + 1)) := by rw [← rowI_at hiz]; exact HR
      have hat := HAT.out (zs2[i].1.bk) (by
        have := congrArg (List.map Mk.bk) HZ2.out
        rw [bk_all, List.map_map] at this
        rw [← this]
        exact List.mem_map.2 ⟨zs2[i], List.getElem_mem hiz, rfl⟩)
      have hmv : ∃ m0 : Mk, zs2[i].1 = m0.mv 14 := by
        have hmem : zs2[i].1 ∈ ms.map (Mk.mv 14) := by rw [← HZ2.out]; exact List.mem_map.2 ⟨zs2[i], List.getElem_mem hiz, rfl⟩
        obtain ⟨m0, _, e⟩ := List.mem_map.1 hmem
        exact ⟨m0, e.symm⟩
      have HZK := Lib.hid (rowK_zero zs2 i zs2[i])
      have HZF := Lib.hid (rowK_full hiz)
      have hAl : ((zs2.take i).map bk1).length = i := by rw [List.length_map, List.length_take]; omega
      obtain ⟨g, cg, eA, hg, el, har⟩ := h1.elemA
      rw [hAl] at el
      generalize zs2[i] = z at *
      obtain ⟨m, u⟩ := z
      simp only at el har hat hmv
      injection eA with eA1 eAL eA2
      clear eAL
      subst eA1 eA2
      obtain ⟨m0, rfl⟩ := hmv
      rw [Mk.bk_mv] at hat
      have hma : (m0.mv 14).at_ = m0.at_ + 14 := rfl
      have hw : wrap64 (m0.at_ : Int) = (m0.at_ : Int) := by
        have := hat.1
        rw [size_toList] at this
        have := HS.out
        exact Go.IntWalk.wrap64_in _ (by omega)
      have HSet : Hid (MR (wr.setCells g (((zs2.take i).map bk1).length * 6 + 5) [.int .i64 ((m0.at_ : Nat) : Int)]) B2 (.slice (some ⟨g, 0, none⟩) n c2) (rowK zs2 i 0 (m0.mv 14, u))) := Lib.hid (by
        rw [HZK.out]
        exact h1.set m0.at_)
      rw [hAl] at HSet
      have hAD := hat.2
      obtain ⟨Au, nu, cu, rfl⟩ := own_slice3 har
      have hnu := own_len har
      have hamx := har.len
      rw [show (m0.mv 14).attrs.length = m0.attrs.length by simp [Mk.mv]] at hnu hamx
      subst hnu
      have HSB : Hid (Below w2.heap.size w2 (wr.setCell ⟨g, i * 6 + 5, none⟩ (.int .i64 (m0.at_ : Int)))) := Lib.hid (Below.setCell HB (by show w2.heap.size ≤ g; have := h1.geB; have := HBB.out; omega) _)
      have hfz := h1.frz (j := i * 6 + 5)
      have k5 := el.c5
      rw [hma] at k5
      have HATA := Lib.hid hAD
      have HAl := Lib.hid hAl
      clear hAD hat el h1 har HZK hma hAl HR HB
      go_wp2_with fail

      have HSet2 : Hid (MR (wr.setCell ⟨g, i * 6 + 5, none⟩ (.int .i64 (m0.at_ : Int))) B2 (.slice (some ⟨g, 0, none⟩) n c2) (rowK zs2 i 0 (m0.mv 14, .slice Au m0.attrs.length cu))) := HSet
      clear HSet hfz k5 hg hw
      generalize wr.setCell ⟨g, i * 6 + 5, none⟩ (.int .i64 (m0.at_ : Int)) = W at *
      have HNL : Hid ((m0.mv 14).attrs.length = m0.attrs.length) := Lib.hid (by simp [Mk.mv])
      have HMA : Hid (∀ a ∈ (m0.mv 14).attrs, ∃ a0 ∈ m0.attrs, a = a0.mv 14) := Lib.hid (by
        intro a ha
        obtain ⟨a0, h1, h2⟩ := List.mem_map.1 (show a ∈ m0.attrs.map (At3.mv 14) from ha)
        exact ⟨a0, h1, h2.symm⟩)
      generalize hna : m0.attrs.length = na at *
      have HNA := Lib.hid hna
      clear hna
      generalize hmm : m0.mv 14 = mm at *
      clear hmm
      go_loopg [11] na (fun ky v11 wr => ∃ (k : Nat), v11 = .int .i64 (k : Int) ∧ k ≤ na ∧ na - k ≤ ky ∧ Aside (MR wr B2 (.slice (some ⟨g, 0, none⟩) n c2) (rowK zs2 i k (mm, .slice Au na cu))) ∧ Aside (Below w2.heap.size w2 wr))
      case atStart => exact ⟨0, rfl, Nat.zero_le _, Nat.le_refl _, HSet2.out, HSB.out⟩
      case round =>
        clear HSet2 HSB
        obtain ⟨k, rfl, hkn, hky, HR, HB⟩ := hrel
        have pk : (0 : Int) ≤ (k : Int) := by omega
        by_cases hkl : k < na
        · have hklz : (k : Int) < (na : Int) := by omega
          have hkm : k < mm.attrs.length := by rw [HNL.out]; exact hkl
          obtain ⟨a0, ha0, ea0⟩ := HMA.out mm.attrs[k] (List.getElem_mem hkm)
          have hP : ((mm.attrs.take k).map At3.bk).length = k := by rw [List.length_map, List.length_take]; omega
          have h1 : MR wr B2 (.slice (some ⟨g, 0, none⟩) n c2) ((zs2.take i).map bk1 ++ ({ mm with attrs := (mm.attrs.take k).map At3.bk ++ mm.attrs[k] :: mm.attrs.drop (k + 1), at_ := mm.at_ - 14 }, .slice Au na cu) :: zs2.drop (i + 1)) := by rw [← rowK_split (z := (mm, .slice Au na cu)) hkm]; exact HR
          obtain ⟨g', cg', eA, hg, el, har⟩ := h1.elemA
          rw [HAl.out] at el
          injection eA with eA1 eAL eA2
          injection eA1 with eA1
          injection eA1 with eA1
          clear eAL
          subst eA1 eA2
          obtain ⟨q, cq, eB, hq, q0, q1, q2⟩ := har.elemA
          rw [hP] at q2
          injection eB with eB1 eBL eB2
          clear eBL q0 q1
          subst eB1 eB2
          have hka : mm.attrs[k].at_ = a0.at_ + 14 := by rw [ea0]; rfl
          have hat := HATA.out a0 ha0
          clear ea0 ha0
          have hw : wrap64 (a0.at_ : Int) = (a0.at_ : Int) := by
            rw [size_toList] at hat
            have := HS.out
            exact Go.IntWalk.wrap64_in _ (by omega)
          have HSet : Hid (∀ V : World, V = wr.drew → MR (V.setCell ⟨q, k * 3 + 2, none⟩ (.int .i64 (a0.at_ : Int))) B2 (.slice (some ⟨g, 0, none⟩) n c2) (rowK zs2 i (k + 1) (mm, .slice (some ⟨q, 0, none⟩) na cu))) := Lib.hid (by
            rintro V rfl
            have h2 := MR.setAttr (h1.below (Below.drew (Below.refl _ _))) (P := (mm.attrs.take k).map At3.bk) (a := mm.attrs[k]) (Q := mm.attrs.drop (k + 1)) rfl (a0.at_)
            rw [hP] at h2
            have h3 := rowK_next (zs := zs2) (i := i) (z := (mm, .slice (some ⟨q, 0, none⟩) na cu)) hkm
            simp only at h3
            rw [hka, Nat.add_sub_cancel] at h3
            rw [← h3]
            exact h2)
          have hBq : w2.heap.size ≤ q := by have := har.geB; have := HBB.out; omega
          have HSB : Hid (∀ V : World, V = wr.drew → Below w2.heap.size w2 (V.setCell ⟨q, k * 3 + 2, none⟩ (.int .i64 (a0.at_ : Int)))) := Lib.hid (by rintro V rfl; exact Below.setCell (Below.drew HB) hBq _)
          have hfz := har.frz (j := k * 3 + 2)
          have k2 := el.c2
          rw [hka] at q2
          clear hP h1 el har hka hat hBq HR HB hg hq hkm
          generalize a0.at_ = X at *
          go_wp2_with fail
          go_still_tail 20, (by kernel_rfl)
          go_wp2_with fail
          go_roundg (na - (k + 1))
          case measure => omega
          case rel => exact ⟨k + 1, by go_num, by omega, Nat.le_refl _, HSet.out _ rfl, HSB.out _ rfl⟩
        · obtain rfl : k = na := by omega
          have hklz : ¬ (k : Int) < (k : Int) := by omega
          have h1 : MR wr B2 (.slice (some ⟨g, 0, none⟩) n c2) ((zs2.take i).map bk1 ++ ({ mm with attrs := mm.attrs.map At3.bk, at_ := mm.at_ - 14 }, .slice Au k cu) :: zs2.drop (i + 1)) := by
            have h2 : MR wr B2 (.slice (some ⟨g, 0, none⟩) n c2) (rowK zs2 i k (mm, .slice Au k cu)) := HR
            rw [rowK_end _ _ HNL.out] at h2
            exact h2
          obtain ⟨g', cg', eA, hg, el, har⟩ := h1.elemA
          rw [HAl.out] at el
          injection eA with eA1 eAL eA2
          injection eA1 with eA1
          injection eA1 with eA1
          clear eAL
          subst eA1 eA2
          have k2 := el.c2
          have HRI : Aside (MR wr B2 (.slice (some ⟨g, 0, none⟩) n c2) (rowI zs2 (i + 1))) := by
            have h2 : MR wr B2 (.slice (some ⟨g, 0, none⟩) n c2) (rowK zs2 i k (mm, .slice Au k cu)) := HR
            have h3 := HZF.out
            rw [HNL.out] at h3
            rw [← h3]
            exact h2
          clear h1 el har hg
          go_wp2_with fail
          go_roundg (n - (i + 1))
          case measure => omega
          case rel => exact ⟨i + 1, by go_num, by omega, Nat.le_refl _, HRI, HB⟩
    · obtain rfl : i = n := by omega
      have hltz : ¬ (i : Int) < (i : Int) := by omega
      have he : zs1.map Prod.fst = (rowI zs2 i).map Prod.fst := by
        have h3 := congrArg (List.map Mk.bk) HZ2.out
        rw [bk_all, List.map_map] at h3
        rw [← HL2.out, rowI_full, List.map_map, HZ1.out, ← h3]
        rfl
      have hmx : zs1.length ≤ 9223372036854775807 := HR1.out.max
      have HF := Lib.hid (Same_any wr B1 B2 _ _ zs1 (rowI zs2 i) (HR1.out.below HB) HR he hmx)
      clear he hmx HR
      go_wp2_with fail
      refine HF.out.mono ?_
      rintro e w4 ⟨rfl, hb4⟩
      have HB4 := Lib.hid ((Below.mono HB HB2.out.size : Below w.heap.size w2 wr))
      have HB5 := Lib.hid (HB2.out.trans (HB4.out.trans (hb4.mono HB4.out.size |>.mono (by have := HB2.out.size; have := HB4.out.size; omega))))
      clear hb4
      go_wp2_with fail
      go_ret
      exact ⟨rfl, HB5.out⟩
end Go.Proofs.YtbokcihlbpeagaaDoor
