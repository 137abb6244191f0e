/-
  What is proved: contract of the document's text. Conditions: those in each statement.
-/
import Derived.Test.YtbokcihlbpeagaaGreatDoorNd
namespace Go.Proofs.YtbokcihlbpeagaaGreatDoor
open Go.RowKit Go.Lib

def TextPost (w : World) (s : ByteArray) (k : Nat) (o : Out (List UInt8)) (e : Ending) (w' : World) : Prop := Below w.heap.size w w' ∧ match o with
  | .ok t n => e = .returned (.tuple #[.string ⟨t.toArray⟩, .int .i64 ((k + n : Nat) : Int), noF])
  | .bad d c => e = .returned (.tuple #[.string ⟨#[]⟩, .int .i64 ((k + d : Nat) : Int), fltV (k + d) c])
  | .un => ∃ t : List UInt8, e = .returned (.tuple #[.string ⟨t.toArray⟩, .int .i64 (s.size : Int), noF])
theorem TextPost.ok {w w' : World} {s : ByteArray} {k : Nat} {o : Out (List UInt8)} {t : List UInt8} {n m : Nat} (ho : o = .ok t n) (hm : k + n = m) (hb : Below w.heap.size w w') : TextPost w s k o (.returned (.tuple #[.string ⟨t.toArray⟩, .int .i64 (m : Int), noF])) w' := by
  subst ho hm; exact ⟨hb, rfl⟩
theorem TextPost.bad {w w' : World} {s : ByteArray} {k : Nat} {o : Out (List UInt8)} {c : Int} {d m : Nat} (ho : o = .bad d c) (hm : k + d = m) (hb : Below w.heap.size w w') : TextPost w s k o (.returned (.tuple #[.string ⟨#[]⟩, .int .i64 (m : Int), fltV m c])) w' := by
  subst ho hm; exact ⟨hb, rfl⟩
theorem TextPost.un {w w' : World} {s : ByteArray} {k : Nat} {o : Out (List UInt8)} {t : List UInt8} {m : Nat} (ho : o = .un) (hm : m = s.size) (hb : Below w.heap.size w w') : TextPost w s k o (.returned (.tuple #[.string ⟨t.toArray⟩, .int .i64 (m : Int), noF])) w' := by
  subst ho hm; exact ⟨hb, t, rfl⟩
theorem stop_q {v : Bool} {q : Nat} (hq : qOk v q) {b : UInt8} {t : List UInt8} (h : b.toNat = q) : stop_ v q (b :: t) = true := by
  cases v
  · have : q = 60 := hq
    show ((b :: t).isEmpty || b.toNat == 60) = true
    rw [h, this]; rfl
  · show (b.toNat == q) = true
    rw [h]; simp
theorem stop_no {v : Bool} {q : Nat} (hq : qOk v q) {b : UInt8} {t : List UInt8} (h : b.toNat ≠ q) : stop_ v q (b :: t) = false := by
  cases v
  · have : q = 60 := hq
    show ((b :: t).isEmpty || b.toNat == 60) = false
    rw [this] at h
    simp [h]
  · show (b.toNat == q) = false
    simp [h]
theorem stpc_60 {v : Bool} {q : Nat} (hq : qOk v q) {b : UInt8} {t : List UInt8} (hn : b.toNat ≠ q) (h : b.toNat = 60) : stpc v (b :: t) = .bad 0 82 := by
  cases v
  · have : q = 60 := hq
    omega
  · show stepV (b :: t) = _
    unfold stepV
    rw [if_pos (.inl (show hd (b :: t) = 60 from h))]
    rfl
theorem stpc_38 {v : Bool} {b : UInt8} {t : List UInt8} (h : b.toNat = 38) : stpc v (b :: t) = refO (b :: t) := by
  have hh : hd (b :: t) = 38 := h
  have hp : pieceO (b :: t) = refO (b :: t) := by unfold pieceO; rw [if_pos hh]
  cases v
  · exact hp
  · show stepV (b :: t) = _
    unfold stepV
    rw [hh, if_neg (by decide), if_neg (by decide), hp]
theorem end_O {v : Bool} {q n : Nat} {l a : List UInt8} (hq : qOk v q) (h : RunB v q 0 l n a) (he : l.drop n = []) : wholeO v q l = .ok a n ∨ wholeO v q l = .un := by
  cases v
  · left
    exact h.done (by rw [he]; rfl)
  · right
    have hs : stop_ true q [] = false := by
      have : q = 34 ∨ q = 39 := hq
      rcases this with rfl | rfl <;> rfl
    exact h.un (by rw [he]; exact hs) (by rw [he]; rfl)
theorem ref_len {l t : List UInt8} {n : Nat} (h : refO l = .ok t n) (h38 : hd l = 38) : t.length ≤ 4 := pieceO_len (l := l) (n := n) (by unfold pieceO; rw [if_pos h38]; exact h)
/-- where the inner loop stands -/
theorem sl_step {q : Nat} {s : ByteArray} {j : Nat} (h : j < s.size) (hb : inS q s[j] = true) : sl q (tl s j) = sl q (tl s (j + 1)) + 1 := by
  rw [tl_cons h, sl_on hb]
theorem sl_stop {q : Nat} {s : ByteArray} {j : Nat} (h : j < s.size) (hb : inS q s[j] = false) : sl q (tl s j) = 0 := by
  rw [tl_cons h, sl_no hb]
theorem sl_out {q : Nat} {s : ByteArray} {j : Nat} (h : s.size ≤ j) : sl q (tl s j) = 0 := by
  unfold tl; rw [List.drop_of_length_le (by rw [size_toList]; exact h)]; rfl
theorem own_bel {w w' : World} {base n : Nat} {v : Value} {xs : List Value} (h : w.ownsRow base 5 1 v n xs) (hb : Below w.heap.size w w') : w'.ownsRow base 5 1 v n xs :=
  h.kept (row := none) ⟨hb.os, hb.tape, hb.output, hb.size, fun k hk _ => hb.block k hk⟩ (by cases hv : v.ownBlock <;> simp)
theorem refO_not {l : List UInt8} : refO l ≠ .un := by unfold refO; split <;> simp
set_option maxHeartbeats 4000000 in
set_option maxRecDepth 100000 in
theorem dText_any (s : ByteArray) (k q : Nat) (v : Bool) (hq : qOk v q) (hk : k ≤ s.size) (hs : s.size ≤ 65536) (h0 : ∀ b ∈ s.data.toList, b ≠ 0) (w : World) :
    Calls Tryz.prog 29 #[.string s, .int .i64 (k : Int), .int .u8 (q : Int), .bool v] w (TextPost w s k (wholeO v q (tl s k))) := by
  have HQ := Lib.hid hq
  have H0 : Hid (∀ b ∈ tl s k, b ≠ 0) := Lib.hid (fun b hb => h0 b (List.mem_of_mem_drop hb))
  obtain ⟨O, hO⟩ : ∃ O, O = wholeO v q (tl s k) := ⟨_, rfl⟩
  rw [← hO]
  have HO := Lib.hid hO
  obtain ⟨W0, hW0⟩ : ∃ W0, W0 = w.alloc (.cells #[.int .i64 0, .int .i64 0] 27) := ⟨_, rfl⟩
  have hsz0 : W0.heap.size = w.heap.size + 1 := by rw [hW0]; simp
  have HW0 : Hid (Below w.heap.size w W0 ∧ FB W0 w.heap.size (.int .i64 0) (.int .i64 0) ∧ W0.heap.size = w.heap.size + 1) := Lib.hid (by
    refine ⟨?_, ?_, hsz0⟩
    · rw [hW0]; exact (Below.refl _ _).alloc (Nat.le_refl _) _
    · rw [hW0]; exact FB.new w)
  clear hq h0 hO hsz0
  go_enter Tryz.func29, Tryz.ntmps29
  go_wp2
  rw [← hW0]
  clear hW0
  go_loopg [1, 11, 12, 13, 14] s.size (fun kx v1 v11 _ _ _ wr => ∃ (i n c : Nat) (A : Option Addr) (l : List UInt8), v1 = .int .i64 (i : Int) ∧ v11 = .slice A n c ∧ k ≤ i ∧ i ≤ s.size ∧ n ≤ 4 * (i - k) ∧ s.size - i ≤ kx ∧ Aside (wr.ownsRow W0.heap.size 5 1 (.slice A n c) n (bv l)) ∧ Aside (RunB v q 0 (tl s k) (i - k) l) ∧ Aside (Below W0.heap.size W0 wr))
  case atStart => exact ⟨k, 0, 0, none, [], rfl, rfl, Nat.le_refl _, hk, by omega, by omega, (World.ownsRow_nil _ _ _ _ : Aside _), (by rw [Nat.sub_self]; exact RunB.start _ _ _ _ : Aside _), (Below.refl _ _ : Aside _)⟩
  case round =>
    obtain ⟨i, n, c, A, l, rfl, rfl, hki, hi, hn, hkx, HOW, HI, HB⟩ := hrel
    have pi : (0 : Int) ≤ (i : Int) := by omega
    have hI : RunB v q 0 (tl s k) (i - k) l := HI
    have hdr : (tl s k).drop (i - k) = tl s i := by rw [tl_drop, show k + (i - k) = i by omega]
    by_cases hlt : i < s.size
    · have hltz : (i : Int) < (s.size : Int) := by omega
      have hcons := tl_cons hlt
      by_cases hbq : s[i].toNat = q
      · have eq1 : ((s[i].toNat : Int) != (q : Int)) = false := by rw [hbq]; simp
        have HR : Hid (O = .ok l (i - k)) := Lib.hid (by rw [HO.out]; exact hI.done (by rw [hdr, hcons]; exact stop_q HQ.out hbq))
        have hcv := conv_hold (Hold.of_own (show wr.ownsRow W0.heap.size 5 1 (.slice A n c) n (bv l) from HOW))
        have hfb := (HW0.out.2.1.below HB (by rw [HW0.out.2.2]; omega))
        clear hI hdr hcons HI HOW hbq
        have fb0 := hfb.c0
        have fb1 := hfb.c1
        have fz0 := hfb.fz 0
        have fz1 := hfb.fz 1
        have hf2 := (hfb.set0 (.int .i64 0)).set1 (.int .i64 0)
        have y0 := hf2.c0
        have y1 := hf2.c1
        have HBE : Hid (Below w.heap.size w ((wr.setCell ⟨w.heap.size, 0, none⟩ (.int .i64 0)).setCell ⟨w.heap.size, 1, none⟩ (.int .i64 0))) := Lib.hid (((HW0.out.1.trans (Below.mono HB (by rw [HW0.out.2.2]; omega))).setCell (p := ⟨w.heap.size, 0, none⟩) (Nat.le_refl _) _).setCell (p := ⟨w.heap.size, 1, none⟩) (Nat.le_refl _) _)
        clear hf2 hfb
        go_wp2
        refine bodyPost_ret (v := .tuple #[.string ⟨l.toArray⟩, .int .i64 (i : Int), .agg #[.int .i64 0, .int .i64 0]]) (by simp only [results, Tryz.results29]; simp [results, go_sem, y0, y1]) rfl ?_
        exact TextPost.ok HR.out (by omega) HBE.out
      · have eq1 : ((s[i].toNat : Int) != (q : Int)) = true := bne_iff_ne.2 (by omega)
        have hst : stop_ v q ((tl s k).drop (i - k)) = false := by rw [hdr, hcons]; exact stop_no HQ.out hbq
        by_cases hb60 : s[i].toNat = 60
        · have e60 : ((s[i].toNat : Int) == 60) = true := by rw [hb60]; rfl
          have HR : Hid (O = .bad (0 + (i - k)) 82) := Lib.hid (by rw [HO.out]; exact hI.bad hst (by rw [hdr, hcons]; exact stpc_60 HQ.out hbq hb60))
          have hfb := (HW0.out.2.1.below HB (by rw [HW0.out.2.2]; omega))
          clear hI hdr hcons HI HOW hbq hst
          have fb0 := hfb.c0
          have fb1 := hfb.c1
          have fz0 := hfb.fz 0
          have fz1 := hfb.fz 1
          have hf2 := (hfb.set0 (.int .i64 (i : Int))).set1 (.int .i64 82)
          have y0 := hf2.c0
          have y1 := hf2.c1
          have HBE : Hid (Below w.heap.size w ((wr.setCell ⟨w.heap.size, 0, none⟩ (.int .i64 (i : Int))).setCell ⟨w.heap.size, 1, none⟩ (.int .i64 82))) := Lib.hid (((HW0.out.1.trans (Below.mono HB (by rw [HW0.out.2.2]; omega))).setCell (p := ⟨w.heap.size, 0, none⟩) (Nat.le_refl _) _).setCell (p := ⟨w.heap.size, 1, none⟩) (Nat.le_refl _) _)
          clear hf2 hfb
          go_wp2
          refine bodyPost_ret (v := .tuple #[.string ⟨#[]⟩, .int .i64 (i : Int), .agg #[.int .i64 (i : Int), .int .i64 82]]) (by simp only [results, Tryz.results29]; simp [results, go_sem, y0, y1]) rfl ?_
          exact TextPost.bad HR.out (by omega) HBE.out
        have e60 : ((s[i].toNat : Int) == 60) = false := beq_eq_false_iff_ne.2 (by omega)
        have m60 : ((s[i].toNat : Int) != 60) = true := bne_iff_ne.2 (by omega)
        by_cases hb38 : s[i].toNat = 38
        · have e38 : ((s[i].toNat : Int) == 38) = true := by rw [hb38]; rfl
          have h38 : hd (tl s i) = 38 := by rw [hcons]; exact hb38
          have hsp : stpc v ((tl s k).drop (i - k)) = refO (tl s i) := by rw [hdr, hcons]; exact stpc_38 hb38
          have HRF := Lib.hid (dRef_any s i hlt h38 hs)
          cases hr : refO (tl s i) with
          | ok t m =>
            have hm := refO_le hr
            rw [tl_length] at hm
            have ht4 := ref_len hr h38
            have hRun := hI.on hst (by rw [hsp]; exact hr)
            rw [hr] at HRF
            have HN : Aside (RunB v q 0 (tl s k) (i + m - k) (l ++ t)) := by
              rw [show i + m - k = i - k + m by omega]; exact hRun
            change Hid (∀ w : World, Calls Tryz.prog 47 #[.string s, .int .i64 (i : Int)] w fun e w' => e = .returned (.tuple #[.string ⟨t.toArray⟩, .int .i64 ((i + m : Nat) : Int)]) ∧ Below w.heap.size w w') at HRF
            have hne : (((i + m : Nat) : Int) == 0) = false := beq_eq_false_iff_ne.2 (by omega)
            obtain ⟨tb, htb⟩ : ∃ tb : ByteArray, tb = ⟨t.toArray⟩ := ⟨_, rfl⟩
            have hts : tb.size = t.length := by rw [htb, ← size_toList]
            have HST : Hid (strCells tb = bv t) := Lib.hid (by rw [htb]; rfl)
            rw [← htb] at HRF
            have hts4 : tb.size ≤ 4 := by omega
            have HTS := Lib.hid hts
            obtain ⟨i0, hi0, hz0, hz1, hz2⟩ := info_parts Tryz.info5
            clear hI hdr hcons HI hbq hst hsp h38 hr hRun htb ht4 hts hb38 hb60
            have hE1 : i < i + m := by omega
            have hE2 : i + m ≤ s.size := by omega
            have hE3 : n + tb.size ≤ 4 * (i + m - k) := by omega
            generalize hE : i + m = E at *
            clear hE
            go_wp2_with fail
            refine (HRF.out _).mono ?_
            rintro e w2 ⟨rfl, hb2⟩
            have HB2 := Lib.hid (Below.trans HB (Below.mono hb2 (Below.size HB)))
            have HOW2 := Lib.hid (own_bel (show wr.ownsRow W0.heap.size 5 1 (.slice A n c) n (bv l) from HOW) hb2)
            clear hb2
            go_wp2_with (at_builtin; refine wpList_append_own_string _ rfl (.tmp 48) (.tmp 49) 42 9 rfl W0.heap.size 5 i0 Tryz.underlying42 Tryz.underlying9 hi0 hz0 hz1 hz2 (.slice A n c) n (bv l) rfl HOW2.out tb rfl (by unfold maxLen; omega) (by omega) HB2.out.size ?_; intro v1 w1 hown1 hgrow1 _; obtain ⟨A1, c1, rfl⟩ := own_form hown1)
            have hown2 : w1.ownsRow W0.heap.size 5 1 (.slice A1 (n + tb.size) c1) (n + tb.size) (bv (l ++ t)) := by rw [bv_append, ← HST.out]; exact hown1
            go_roundg (s.size - E)
            case measure => omega
            case rel => exact ⟨E, n + tb.size, c1, A1, l ++ t, rfl, rfl, by omega, hE2, hE3, Nat.le_refl _, hown2, HN, (HB2.out.grown hgrow1 HB2.out.size (fun k hk => (World.ownsRow.lt (v := .slice A n c) HOW2.out k hk).1) : Aside _)⟩
          | bad d y =>
            have hdy : d = 0 ∧ y = 83 := by
              unfold refO at hr
              split at hr
              · cases hr
              · cases hr; exact ⟨rfl, rfl⟩
            obtain ⟨rfl, rfl⟩ := hdy
            rw [hr] at HRF
            change Hid (∀ w : World, Calls Tryz.prog 47 #[.string s, .int .i64 (i : Int)] w fun e w' => e = .returned (.tuple #[.string ⟨#[]⟩, .int .i64 0]) ∧ Below w.heap.size w w') at HRF
            have HR : Hid (O = .bad (0 + (i - k)) 83) := Lib.hid (by rw [HO.out]; exact hI.bad hst (by rw [hsp, hr]))
            clear hI hdr hcons HI HOW hbq hst hsp h38 hr hb38 hb60
            go_wp2_with (go_at_call 47; refine (HRF.out _).mono ?_; rintro e w2 ⟨rfl, hb2⟩; have HB2 := Lib.hid (Below.trans HB (Below.mono hb2 (Below.size HB))); have hfb := (HW0.out.2.1.below HB2.out (by rw [HW0.out.2.2]; omega)); have fb0 := hfb.c0; have fb1 := hfb.c1; have fz0 := hfb.fz 0; have fz1 := hfb.fz 1; have hf2 := (hfb.set0 (.int .i64 (i : Int))).set1 (.int .i64 83); have y0 := hf2.c0; have y1 := hf2.c1; clear hf2 hfb hb2)
            refine bodyPost_ret (v := .tuple #[.string ⟨#[]⟩, .int .i64 (i : Int), .agg #[.int .i64 (i : Int), .int .i64 83]]) (by simp only [results, Tryz.results29]; simp [results, go_sem, y0, y1]) rfl ?_
            exact TextPost.bad HR.out (by omega) (((HW0.out.1.trans (Below.mono HB2.out (by rw [HW0.out.2.2]; omega))).setCell (p := ⟨w.heap.size, 0, none⟩) (Nat.le_refl _) _).setCell (p := ⟨w.heap.size, 1, none⟩) (Nat.le_refl _) _)
          | un => exact absurd hr refO_not
        · have e38 : ((s[i].toNat : Int) == 38) = false := beq_eq_false_iff_ne.2 (by omega)
          have hin : inS q s[i] = true := by unfold inS; simp [hbq, hb60, hb38]
          have hsl1 : 1 ≤ sl q (tl s i) := by rw [sl_step hlt hin]; omega
          have HRS := Lib.hid (hI.stretch HQ.out H0.out)
          rw [hdr] at HRS
          obtain ⟨V, hVw⟩ : ∃ V, V = wr := ⟨_, rfl⟩
          subst hVw
          clear hI hdr hcons HI hbq hst hb38 hb60 hin
          go_wp2
          go_loopg [1] s.size (fun ky v1 wr => ∃ (j : Nat), v1 = .int .i64 (j : Int) ∧ i ≤ j ∧ j ≤ s.size ∧ s.size - j ≤ ky ∧ Aside (sl q (tl s i) = (j - i) + sl q (tl s j)) ∧ Aside (V = wr))
          case atStart => exact ⟨i, rfl, Nat.le_refl _, hi, by omega, (by show _ = _; omega : Aside _), rfl⟩
          case round =>
            obtain ⟨j, rfl, hij, hj, hky, HJ, HV⟩ := hrel
            have hVw : V = wr := HV
            subst hVw
            clear HV
            have hJ : sl q (tl s i) = (j - i) + sl q (tl s j) := HJ
            clear HJ
            have pj : (0 : Int) ≤ (j : Int) := by omega
            by_cases hjl : j < s.size
            · have hjz : (j : Int) < (s.size : Int) := by omega
              by_cases hjq : s[j].toNat = q
              · have d1 : ((s[j].toNat : Int) != (q : Int)) = false := by rw [hjq]; simp
                have hs0 : sl q (tl s j) = 0 := sl_stop hjl (by unfold inS; simp [hjq])
                clear hjq
                have hsj : sl q (tl s i) = j - i := by omega
                have HN : Aside (RunB v q 0 (tl s k) (j - k) (l ++ flatV v (s.extract i j).data.toList)) := by
                  have h1 := HRS.out
                  rw [hsj, show i - k + (j - i) = j - k by omega] at h1
                  rw [Lib.extract_data]
                  exact h1
                have hxs : (s.extract i j).data.toList.length = j - i := by rw [Lib.extract_data, List.length_take, List.length_drop, size_toList]; omega
                have HFL := Lib.hid (dFlat_any (s.extract i j) v (by rw [← size_toList, hxs]; omega))
                have hfl := flatV_len v (s.extract i j).data.toList
                rw [hxs] at hfl
                have hijz : (i : Int) ≤ (j : Int) := by omega
                have hjz2 : (j : Int) ≤ (s.size : Int) := by omega
                have hjm : i < j := by omega
                clear hsj hJ hs0 HRS hxs
                go_wp2_with fail
                refine (HFL.out _).mono ?_
                rintro e w2 ⟨A2, n2, c2, rfl, hh, hb2⟩
                have HB2 := Lib.hid (Below.trans HB (Below.mono hb2 (Below.size HB)))
                have HOW2 := Lib.hid (own_bel (show V.ownsRow W0.heap.size 5 1 (.slice A n c) n (bv l) from HOW) hb2)
                have hn2 : n2 ≤ j - i := by rw [← hh.1]; exact hfl
                have HH2 := Lib.hid hh
                clear hh hb2 hfl
                go_wp2_with (at_builtin; refine wpList_append_hold rfl (.tmp 78) (.tmp 84) rfl W0.heap.size (.slice A n c) n l rfl HOW2.out A2 n2 c2 _ rfl HH2.out (by omega) HB2.out.size ?_; intro A1 c1 w1 hown1 hgrow1)
                go_roundg (s.size - j)
                case measure => omega
                case rel => exact ⟨j, n + n2, c1, A1, _, rfl, rfl, by omega, hj, by omega, Nat.le_refl _, hown1, HN, (HB2.out.grown hgrow1 HB2.out.size (fun k hk => (World.ownsRow.lt (v := .slice A n c) HOW2.out k hk).1) : Aside _)⟩
              have d1 : ((s[j].toNat : Int) != (q : Int)) = true := bne_iff_ne.2 (by omega)
              by_cases hj60 : s[j].toNat = 60
              · have d2 : ((s[j].toNat : Int) != 60) = false := by rw [hj60]; rfl
                have hs0 : sl q (tl s j) = 0 := sl_stop hjl (by unfold inS; simp [hj60])
                clear hjq hj60
                have hsj : sl q (tl s i) = j - i := by omega
                have HN : Aside (RunB v q 0 (tl s k) (j - k) (l ++ flatV v (s.extract i j).data.toList)) := by
                  have h1 := HRS.out
                  rw [hsj, show i - k + (j - i) = j - k by omega] at h1
                  rw [Lib.extract_data]
                  exact h1
                have hxs : (s.extract i j).data.toList.length = j - i := by rw [Lib.extract_data, List.length_take, List.length_drop, size_toList]; omega
                have HFL := Lib.hid (dFlat_any (s.extract i j) v (by rw [← size_toList, hxs]; omega))
                have hfl := flatV_len v (s.extract i j).data.toList
                rw [hxs] at hfl
                have hijz : (i : Int) ≤ (j : Int) := by omega
                have hjz2 : (j : Int) ≤ (s.size : Int) := by omega
                have hjm : i < j := by omega
                clear hsj hJ hs0 HRS hxs
                go_wp2_with fail
                refine (HFL.out _).mono ?_
                rintro e w2 ⟨A2, n2, c2, rfl, hh, hb2⟩
                have HB2 := Lib.hid (Below.trans HB (Below.mono hb2 (Below.size HB)))
                have HOW2 := Lib.hid (own_bel (show V.ownsRow W0.heap.size 5 1 (.slice A n c) n (bv l) from HOW) hb2)
                have hn2 : n2 ≤ j - i := by rw [← hh.1]; exact hfl
                have HH2 := Lib.hid hh
                clear hh hb2 hfl
                go_wp2_with (at_builtin; refine wpList_append_hold rfl (.tmp 78) (.tmp 84) rfl W0.heap.size (.slice A n c) n l rfl HOW2.out A2 n2 c2 _ rfl HH2.out (by omega) HB2.out.size ?_; intro A1 c1 w1 hown1 hgrow1)
                go_roundg (s.size - j)
                case measure => omega
                case rel => exact ⟨j, n + n2, c1, A1, _, rfl, rfl, by omega, hj, by omega, Nat.le_refl _, hown1, HN, (HB2.out.grown hgrow1 HB2.out.size (fun k hk => (World.ownsRow.lt (v := .slice A n c) HOW2.out k hk).1) : Aside _)⟩
              have d2 : ((s[j].toNat : Int) != 60) = true := bne_iff_ne.2 (by omega)
              by_cases hj38 : s[j].toNat = 38
              · have d3 : ((s[j].toNat : Int) != 38) = false := by rw [hj38]; rfl
                have hs0 : sl q (tl s j) = 0 := sl_stop hjl (by unfold inS; simp [hj38])
                clear hjq hj60 hj38
                have hsj : sl q (tl s i) = j - i := by omega
                have HN : Aside (RunB v q 0 (tl s k) (j - k) (l ++ flatV v (s.extract i j).data.toList)) := by
                  have h1 := HRS.out
                  rw [hsj, show i - k + (j - i) = j - k by omega] at h1
                  rw [Lib.extract_data]
                  exact h1
                have hxs : (s.extract i j).data.toList.length = j - i := by rw [Lib.extract_data, List.length_take, List.length_drop, size_toList]; omega
                have HFL := Lib.hid (dFlat_any (s.extract i j) v (by rw [← size_toList, hxs]; omega))
                have hfl := flatV_len v (s.extract i j).data.toList
                rw [hxs] at hfl
                have hijz : (i : Int) ≤ (j : Int) := by omega
                have hjz2 : (j : Int) ≤ (s.size : Int) := by omega
                have hjm : i < j := by omega
                clear hsj hJ hs0 HRS hxs
                go_wp2_with fail
                refine (HFL.out _).mono ?_
                rintro e w2 ⟨A2, n2, c2, rfl, hh, hb2⟩
                have HB2 := Lib.hid (Below.trans HB (Below.mono hb2 (Below.size HB)))
                have HOW2 := Lib.hid (own_bel (show V.ownsRow W0.heap.size 5 1 (.slice A n c) n (bv l) from HOW) hb2)
                have hn2 : n2 ≤ j - i := by rw [← hh.1]; exact hfl
                have HH2 := Lib.hid hh
                clear hh hb2 hfl
                go_wp2_with (at_builtin; refine wpList_append_hold rfl (.tmp 78) (.tmp 84) rfl W0.heap.size (.slice A n c) n l rfl HOW2.out A2 n2 c2 _ rfl HH2.out (by omega) HB2.out.size ?_; intro A1 c1 w1 hown1 hgrow1)
                go_roundg (s.size - j)
                case measure => omega
                case rel => exact ⟨j, n + n2, c1, A1, _, rfl, rfl, by omega, hj, by omega, Nat.le_refl _, hown1, HN, (HB2.out.grown hgrow1 HB2.out.size (fun k hk => (World.ownsRow.lt (v := .slice A n c) HOW2.out k hk).1) : Aside _)⟩
              have d3 : ((s[j].toNat : Int) != 38) = true := bne_iff_ne.2 (by omega)
              have hstp := sl_step hjl (show inS q s[j] = true by unfold inS; simp [hjq, hj60, hj38])
              have HJN : Aside (sl q (tl s i) = (j + 1 - i) + sl q (tl s (j + 1))) := by show _ = _; omega
              clear hjq hj60 hj38 hstp hJ
              go_wp2
              go_roundg (s.size - (j + 1))
              case measure => omega
              case rel => exact ⟨j + 1, by go_num, by omega, hjl, Nat.le_refl _, HJN, rfl⟩
            · obtain rfl : j = s.size := by omega
              have hjz : ¬ (s.size : Int) < (s.size : Int) := by omega
              have hs0 : sl q (tl s s.size) = 0 := sl_out (Nat.le_refl _)
              have hsj : sl q (tl s i) = s.size - i := by omega
              have HN : Aside (RunB v q 0 (tl s k) (s.size - k) (l ++ flatV v (s.extract i s.size).data.toList)) := by
                have h1 := HRS.out
                rw [hsj, show i - k + (s.size - i) = s.size - k by omega] at h1
                rw [Lib.extract_data]
                exact h1
              have hxs : (s.extract i s.size).data.toList.length = s.size - i := by rw [Lib.extract_data, List.length_take, List.length_drop, size_toList]; omega
              have HFL := Lib.hid (dFlat_any (s.extract i s.size) v (by rw [← size_toList, hxs]; omega))
              have hfl := flatV_len v (s.extract i s.size).data.toList
              rw [hxs] at hfl
              have hijz : (i : Int) ≤ (s.size : Int) := by omega
              have hjz2 : (s.size : Int) ≤ (s.size : Int) := by omega
              have hjm : i < s.size := by omega
              clear hsj hJ hs0 HRS hxs
              go_wp2_with fail
              refine (HFL.out _).mono ?_
              rintro e w2 ⟨A2, n2, c2, rfl, hh, hb2⟩
              have HB2 := Lib.hid (Below.trans HB (Below.mono hb2 (Below.size HB)))
              have HOW2 := Lib.hid (own_bel (show V.ownsRow W0.heap.size 5 1 (.slice A n c) n (bv l) from HOW) hb2)
              have hn2 : n2 ≤ s.size - i := by rw [← hh.1]; exact hfl
              have HH2 := Lib.hid hh
              clear hh hb2 hfl
              go_wp2_with (at_builtin; refine wpList_append_hold rfl (.tmp 78) (.tmp 84) rfl W0.heap.size (.slice A n c) n l rfl HOW2.out A2 n2 c2 _ rfl HH2.out (by omega) HB2.out.size ?_; intro A1 c1 w1 hown1 hgrow1)
              go_roundg (s.size - s.size)
              case measure => omega
              case rel => exact ⟨s.size, n + n2, c1, A1, _, rfl, rfl, by omega, hj, by omega, Nat.le_refl _, hown1, HN, (HB2.out.grown hgrow1 HB2.out.size (fun k hk => (World.ownsRow.lt (v := .slice A n c) HOW2.out k hk).1) : Aside _)⟩
    · obtain rfl : i = s.size := by omega
      have hltz : ¬ (s.size : Int) < (s.size : Int) := by omega
      have hcv := conv_hold (Hold.of_own (show wr.ownsRow W0.heap.size 5 1 (.slice A n c) n (bv l) from HOW))
      have hfb := (HW0.out.2.1.below HB (by rw [HW0.out.2.2]; omega))
      have HR := Lib.hid (end_O HQ.out hI (by rw [hdr]; unfold tl; rw [List.drop_of_length_le (by rw [size_toList]; omega)]))
      rw [← HO.out] at HR
      clear hI hdr HI HOW
      have fb0 := hfb.c0
      have fb1 := hfb.c1
      have fz0 := hfb.fz 0
      have fz1 := hfb.fz 1
      have hf2 := (hfb.set0 (.int .i64 0)).set1 (.int .i64 0)
      have y0 := hf2.c0
      have y1 := hf2.c1
      have HBE : Hid (Below w.heap.size w ((wr.setCell ⟨w.heap.size, 0, none⟩ (.int .i64 0)).setCell ⟨w.heap.size, 1, none⟩ (.int .i64 0))) := Lib.hid (((HW0.out.1.trans (Below.mono HB (by rw [HW0.out.2.2]; omega))).setCell (p := ⟨w.heap.size, 0, none⟩) (Nat.le_refl _) _).setCell (p := ⟨w.heap.size, 1, none⟩) (Nat.le_refl _) _)
      clear hf2 hfb
      go_wp2
      refine bodyPost_ret (v := .tuple #[.string ⟨l.toArray⟩, .int .i64 (s.size : Int), .agg #[.int .i64 0, .int .i64 0]]) (by simp only [results, Tryz.results29]; simp [results, go_sem, y0, y1]) rfl ?_
      rcases HR.out with h1 | h1
      · exact TextPost.ok h1 (by omega) HBE.out
      · exact TextPost.un h1 rfl HBE.out
end Go.Proofs.YtbokcihlbpeagaaGreatDoor
