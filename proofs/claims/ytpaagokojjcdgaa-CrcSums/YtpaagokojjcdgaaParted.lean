/-
  What is proved: the walk of the law CrcSums: for all parts and every place it returns true and turns nothing that was there. Conditions: the number of parts is within Go's own reach.
-/
import Derived.Test.YtpaagokojjcdgaaFinds
import Derived.Test.YtpaagokojjcdgaaSsa
namespace Go.Proofs.Ytpaagokojjcdgaa
open Go.RowKit

/-- The slice of slices '.slice B N C' reads as these parts; of their lengths nothing is said. -/
def Rows0 (w : World) (B : Option Addr) (N : Nat) (ps : List Part) : Prop :=
  ps.length = N ∧ (∀ p ∈ ps, Hold w p.1 p.2.1 p.2.2.1 p.2.2.2) ∧ (0 < N → ∃ b off, B = some ⟨b, off, none⟩ ∧ ∀ j (hj : j < ps.length), w.cell? ⟨b, off + j, none⟩ = some ps[j].val)
theorem Rows0.below {w w' : World} {B : Option Addr} {N : Nat} {ps : List Part} (h : Rows0 w B N ps) (hb : Below w.heap.size w w') : Rows0 w' B N ps := by
  refine ⟨h.1, fun p hp => (h.2.1 p hp).below hb, fun hN => ?_⟩
  obtain ⟨b, off, e, hc⟩ := h.2.2 hN
  exact ⟨b, off, e, fun j hj => cell_later hb (hc j hj)⟩
theorem Rows0.at {w : World} {B : Option Addr} {N : Nat} {ps : List Part} (h : Rows0 w B N ps) {k : Nat} (hk : k < N) : ∃ b off, ∃ hl : k < ps.length, B = some ⟨b, off, none⟩ ∧ w.cell? ⟨b, off + k, none⟩ = some ps[k].val ∧ Hold w ps[k].1 ps[k].2.1 ps[k].2.2.1 ps[k].2.2.2 := by
  obtain ⟨b, off, e, hc⟩ := h.2.2 (by omega)
  have hl : k < ps.length := by rw [h.1]; exact hk
  exact ⟨b, off, hl, e, hc k hl, h.2.1 _ (List.getElem_mem hl)⟩
theorem Rows0.parts {w : World} {B : Option Addr} {N : Nat} {ps : List Part} (h : Rows0 w B N ps) (hs : ∀ p ∈ ps, p.2.1 ≤ 1048576) : Parts w B N ps :=
  ⟨h.1, h.2.1, fun p hp => Nat.le_trans (hs p hp) (by omega), h.2.2⟩
theorem small_snoc (ps : List Part) (k : Nat) (h : k < ps.length) (hs : ∀ p ∈ ps.take k, p.2.1 ≤ 1048576) (hk : ps[k].2.1 ≤ 1048576) : ∀ p ∈ ps.take (k + 1), p.2.1 ≤ 1048576 := by
  rw [List.take_succ_eq_append_getElem h]
  intro p hp
  rcases List.mem_append.1 hp with hp | hp
  · exact hs p hp
  · simp at hp
    subst hp
    exact hk

/-- what the operations of the law's last line yield -/
def cutF (A : Option Addr) (n c m : Nat) (l : List UInt8) : Nat → Value → World → Prop
  | 0, v, _ | 3, v, _ => v = .slice A n c
  | 1, v, _ | 4, v, _ => v = .int .i64 (m : Int)
  | 2, v, w => ∃ A2 c2, v = .slice A2 m c2 ∧ Hold w A2 m c2 (l.take m)
  | 5, v, w => ∃ A2 c2, v = .slice A2 (n - m) c2 ∧ Hold w A2 (n - m) c2 (l.drop m)
  | 6, v, w => ∃ g ps, v = .slice (some ⟨g, 0, none⟩) 3 3 ∧ Parts w (some ⟨g, 0, none⟩) 3 ps ∧ cat ps = l
  | 7, v, _ | 8, v, _ => v = .int .u32 ((crc l : Nat) : Int)
  | _, v, _ => v = .bool true
def cutR (w w' : World) : Prop := Below w.heap.size w w'
theorem cutR_trans {w1 w2 w3 : World} (h : cutR w1 w2) (k : cutR w2 w3) : cutR w1 w3 := Below.trans h (Below.mono k (Below.size h))
theorem cutF_mono {A : Option Addr} {n c m : Nat} {l : List UInt8} : ∀ i v w w', cutF A n c m l i v w → cutR w w' → cutF A n c m l i v w' := by
  intro i v w w' h hR
  unfold cutF at *
  split at h
  all_goals first
    | exact h
    | (obtain ⟨A2, c2, e, hh⟩ := h; exact ⟨A2, c2, e, hh.below hR⟩)
    | (obtain ⟨g, ps, e, hh, hc⟩ := h; exact ⟨g, ps, e, hh.below hR, hc⟩)
theorem no_dst {ops : Array Oper} {t : Tmp} (h : (ops.toList.all fun o => o.dst != some t) = true) : ∀ (i : Nat) (o : Oper), ops[i]? = some o → o.dst ≠ some t := by
  intro i o ho
  have hm : o ∈ ops.toList := by
    rw [Array.getElem?_eq_some_iff] at ho
    obtain ⟨h, rfl⟩ := ho
    simp
  simpa using List.all_eq_true.1 h o hm

set_option maxRecDepth 100000 in
set_option maxHeartbeats 1000000 in
theorem crcSums_walk (B : Option Addr) (N C : Nat) (ps : List Part) (p : Int) (w : World) (h : Rows0 w B N ps) (hN : N ≤ 140737488355328) (hp1 : -9223372036854775808 ≤ p) (hp2 : p ≤ 9223372036854775807) :
    Calls Try.prog 4 #[.slice B N C, .int .i64 p] w fun e w' => e = .returned (.bool true) ∧ Below w.heap.size w w' := by
  have H := Lib.hid h
  have hln := Lib.hid h.1
  clear h
  go_enter Try.func4, Try.ntmps4
  go_wp2
  go_loopw [5, 6] (fun s i wr => ∃ (k : Nat) (A : Option Addr) (n c : Nat), k ≤ N ∧ n ≤ 2097152 ∧ i = .int .i64 k ∧ s = .slice A n c ∧ wr.ownsRow w.heap.size 5 1 (.slice A n c) n (bv (cat (ps.take k))) ∧ (∀ q ∈ ps.take k, q.2.1 ≤ 1048576) ∧ Below w.heap.size w wr) (fun _ i _ => N - (intOf i).toNat)
  case atStart => exact ⟨0, none, 0, 0, by omega, by omega, rfl, rfl, World.ownsRow_nil _ _ _ _, by simp, Below.refl _ _⟩
  case round =>
    obtain ⟨k, A, n, c, hk, hn, rfl, rfl, hown, hsm, hb⟩ := hrel
    have HO := Lib.hid hown
    have HM := Lib.hid hsm
    clear hown hsm
    by_cases hlt : k < N
    · obtain ⟨b, off, hkl, rfl, hcell, hh⟩ := (H.out.below hb).at hlt
      have HS := Lib.hid (cat_snoc ps k hkl)
      have HSM := Lib.hid (small_snoc ps k hkl HM.out)
      generalize ps[k] = q at *
      obtain ⟨A2, n2, c2, l2⟩ := q
      simp only [Part.val] at hcell hh HS HSM
      have HH := Lib.hid hh
      clear hh
      by_cases hbig : 1048576 < n
      · have hbig' : 1048576 < (n : Int) := by omega
        go_wp2_with fail
        refine (awake_any wr).mono ?_
        rintro e w2 ⟨rfl, b2⟩
        go_wp2
        go_ret
        exact ⟨rfl, hb.trans (b2.mono hb.size)⟩
      by_cases hbig2 : 1048576 < n2
      · have hbig' : 1048576 < (n2 : Int) := by omega
        go_wp2_with fail
        refine (awake_any wr).mono ?_
        rintro e w2 ⟨rfl, b2⟩
        go_wp2
        go_ret
        exact ⟨rfl, hb.trans (b2.mono hb.size)⟩
      have hbs := hb.size
      go_wp2_with (at_builtin; refine wpList_append_hold rfl (.tmp 26) (.tmp 30) rfl w.heap.size (.slice A n c) n (cat (ps.take k)) rfl HO.out A2 n2 c2 l2 rfl HH.out (by omega) hbs ?_; intro A3 c3 w3 hown3 hgrow3)
      have HO3 := Lib.hid hown3
      have HL := Lib.hid HO.out.lt
      clear hown3
      go_roundw
      case rel => exact ⟨k + 1, A3, n + n2, c3, by omega, by omega, by go_num, by go_num, by rw [HS.out]; exact HO3.out, HSM.out (by omega), hb.grown hgrow3 hb.size (fun q hq => (HL.out q hq).1)⟩
      case measure => simp [intOf]; omega
    · obtain rfl : k = N := by omega
      have ht : ps.take k = ps := by rw [← hln.out, List.take_length]
      rw [ht] at HO HM
      clear ht
      have HW := Lib.hid (H.out.below hb)
      clear H
      have hA := Lib.hid (Hold.of_own HO.out)
      have hal := Lib.hid hA.out.1
      clear HO
      go_wp2_with fail
      refine (refSum_any A n c (cat ps) wr hA.out (by omega)).mono ?_
      rintro e w2 ⟨rfl, rfl⟩
      go_wp2_with fail
      refine (awake_any wr).mono ?_
      rintro e w2 ⟨rfl, b2'⟩
      have b2 := hb.trans (b2'.mono hb.size)
      have HP := Lib.hid ((HW.out.below b2').parts HM.out)
      have hA2 := Lib.hid (hA.out.below b2')
      clear HW hA b2' hb HM
      go_wp2_with fail
      refine (sum_any B k C ps w2 HP.out hN).mono ?_
      rintro e w3 ⟨rfl, rfl⟩
      go_wp2_with fail
      refine (sum_one A n c (cat ps) w2 hA2.out (by omega) _ rfl).mono ?_
      rintro e w3 ⟨rfl, rfl⟩
      generalize cat ps = l at *
      have b3 : Below w.heap.size w (w2.alloc (.cells #[.slice A n c] 27)) := b2.alloc b2.size _
      have hA3 := Lib.hid (hA2.out.below ((Below.refl _ _).alloc (Nat.le_refl _) (.cells #[.slice A n c] 27)))
      clear hA2 HP b2
      generalize w2.alloc (.cells #[.slice A n c] 27) = w3 at *
      by_cases hneg : p < 0
      · go_wp2
        go_ret
        exact ⟨rfl, b3⟩
      obtain ⟨m, rfl⟩ := Int.eq_ofNat_of_zero_le (show 0 ≤ p by omega)
      by_cases hbig : n < m
      · go_wp2
        go_ret
        exact ⟨rfl, b3⟩
      have hbig' : ¬ (n : Int) < (m : Int) := by omega
      have hd1 : decide ((m : Int) < 0) = false := by simp
      have hd2 : decide ((n : Int) < (m : Int)) = false := by simp; omega
      go_wp2
      have hmn : m ≤ n := by omega
      have hmc : m ≤ c := Nat.le_trans hmn hA3.out.2.1
      have hnc : n ≤ c := hA3.out.2.1
      have hms : (m : Int) ≤ (c : Int) := by omega
      have hms2 : (m : Int) ≤ (n : Int) := by omega
      have Hold3 : ∀ W, cutR w3.drew W → Hold W A n c l := fun W hR => (hA3.out.drew).below hR
      have HA := Lib.hid Hold3
      clear Hold3
      refine wp_region_steps (cutF A n c m l) cutR (by kernel_rfl) (by kernel_rfl) (fun w => Below.refl _ _) (fun _ _ _ h k => cutR_trans h k) cutF_mono ?_ ?_
      · refine ⟨?_, ?_, ?_, ?_, ?_, ?_, ?_, ?_, ?_, ?_, ?_, trivial⟩
        · intro a W hR hoff hd
          left
          refine ⟨rfl, ?_⟩
          have e5 : a.tmps.getD 5 undef = .slice A n c := hoff.slot 5 (no_dst (by kernel_rfl))
          go_simp
          exact ⟨_, rfl, rfl, Below.refl _ _⟩
        · intro a W hR hoff hd
          left
          refine ⟨rfl, ?_⟩
          have e1 : a.tmps.getD 1 undef = .int .i64 (m : Int) := hoff.slot 1 (no_dst (by kernel_rfl))
          go_simp
          exact ⟨_, rfl, rfl, Below.refl _ _⟩
        · intro a W hR hoff hd
          left
          refine ⟨rfl, ?_⟩
          have e57 : a.tmps.getD 57 undef = .slice A n c := hd 0 _ rfl rfl
          have e58 : a.tmps.getD 58 undef = .int .i64 (m : Int) := hd 1 _ rfl rfl
          go_simp
          exact ⟨_, rfl, ⟨A, c, rfl, (HA.out W hR).take hmn⟩, Below.refl _ _⟩
        · intro a W hR hoff hd
          left
          refine ⟨rfl, ?_⟩
          have e5 : a.tmps.getD 5 undef = .slice A n c := hoff.slot 5 (no_dst (by kernel_rfl))
          go_simp
          exact ⟨_, rfl, rfl, Below.refl _ _⟩
        · intro a W hR hoff hd
          left
          refine ⟨rfl, ?_⟩
          have e1 : a.tmps.getD 1 undef = .int .i64 (m : Int) := hoff.slot 1 (no_dst (by kernel_rfl))
          go_simp
          exact ⟨_, rfl, rfl, Below.refl _ _⟩
        · intro a W hR hoff hd
          left
          refine ⟨rfl, ?_⟩
          have e60 : a.tmps.getD 60 undef = .slice A n c := hd 3 _ rfl rfl
          have e61 : a.tmps.getD 61 undef = .int .i64 (m : Int) := hd 4 _ rfl rfl
          by_cases hcm : c = m
          · have hdp : Hold W A (n - m) 0 (l.drop m) := by
              have := (HA.out W hR).drop hmn (A' := A) (fun h => absurd hcm h) (fun _ => rfl)
              rwa [hcm, Nat.sub_self] at this
            have HD := Lib.hid hdp
            clear hdp
            go_simp
            exact ⟨_, rfl, ⟨A, 0, rfl, HD.out⟩, Below.refl _ _⟩
          · have HD := Lib.hid ((HA.out W hR).drop hmn (A' := A.map (·.add m)) (fun _ => rfl) (fun h => absurd h hcm))
            go_simp
            exact ⟨_, rfl, ⟨_, _, rfl, HD.out⟩, Below.refl _ _⟩
        · intro a W hR hoff hd
          left
          refine ⟨rfl, ?_⟩
          obtain ⟨A2, c2, e59, h2⟩ : ∃ A2 c2, a.tmps.getD 59 undef = .slice A2 m c2 ∧ Hold W A2 m c2 (l.take m) := hd 2 _ rfl rfl
          obtain ⟨A3, c3, e62, h3⟩ : ∃ A3 c3, a.tmps.getD 62 undef = .slice A3 (n - m) c3 ∧ Hold W A3 (n - m) c3 (l.drop m) := hd 5 _ rfl rfl
          have hpt := Parts.three h2 (Hold.nil W) h3 (by omega) (by omega) (by omega) W.heap.size rfl
          have HPT := Lib.hid hpt
          clear h2 h3 hpt
          have e59' : a.tmps[59]?.getD undef = .slice A2 m c2 := by simpa using e59
          have e62' : a.tmps[62]?.getD undef = .slice A3 (n - m) c3 := by simpa using e62
          go_simp
          exact ⟨_, rfl, ⟨_, _, rfl, HPT.out, by simp [cat]⟩, (Below.refl _ _).alloc (Nat.le_refl _) _⟩
        · intro a W hR hoff hd
          left
          refine ⟨rfl, ?_⟩
          obtain ⟨g, ps3, e63, hps, hcat⟩ : ∃ g ps3, a.tmps.getD 63 undef = .slice (some ⟨g, 0, none⟩) 3 3 ∧ Parts W (some ⟨g, 0, none⟩) 3 ps3 ∧ cat ps3 = l := hd 6 _ rfl rfl
          have HPS := Lib.hid hps
          have HC := Lib.hid hcat
          clear hps hcat
          go_simp
          refine (sum_any (some ⟨g, 0, none⟩) 3 3 ps3 W HPS.out (by omega)).mono ?_
          rintro e W2 ⟨rfl, rfl⟩
          exact ⟨_, rfl, by rw [HC.out]; rfl, Below.refl _ _⟩
        · intro a W hR hoff hd
          left
          refine ⟨rfl, ?_⟩
          have e7 : a.tmps.getD 7 undef = .int .u32 ((crc l : Nat) : Int) := hoff.slot 7 (no_dst (by kernel_rfl))
          go_simp
          exact ⟨_, rfl, rfl, Below.refl _ _⟩
        · intro a W hR hoff hd
          left
          refine ⟨rfl, ?_⟩
          have e64 : a.tmps.getD 64 undef = .int .u32 ((crc l : Nat) : Int) := hd 7 _ rfl rfl
          have e65 : a.tmps.getD 65 undef = .int .u32 ((crc l : Nat) : Int) := hd 8 _ rfl rfl
          go_simp
          exact ⟨_, rfl, rfl, Below.refl _ _⟩
        · intro a W hR hoff hd
          left
          refine ⟨rfl, ?_⟩
          have e66 : a.tmps.getD 66 undef = .bool true := hd 9 _ rfl rfl
          go_simp
          exact ⟨_, rfl, rfl, Below.refl _ _⟩
      · intro a W hR hoff hd
        have e4 : a.tmps.getD 4 undef = .bool true := hd 10 _ rfl
        rename_i hK
        refine hK _ _ ?_
        go_wp2
        refine bodyPost_ret (results_tmp rfl _ _ _) hoff.defers ⟨by rw [e4], ?_⟩
        exact (b3.drew).trans (Below.mono hR b3.size)
end Go.Proofs.Ytpaagokojjcdgaa
