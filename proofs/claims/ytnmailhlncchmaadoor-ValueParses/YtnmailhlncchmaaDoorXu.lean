/-
  What is proved: contract of the document's Parse. Conditions: those in each statement.
-/
import Derived.Test.YtnmailhlncchmaaDoorXt
import Derived.Test.YtnmailhlncchmaaDoorXr
import Derived.Test.YtnmailhlncchmaaDoorXs
namespace Go.Proofs.YtnmailhlncchmaaDoor
open Go.RowKit

/-- what stands between the ends, read strictly -/
def docU : List UInt8 → Option (List UInt8)
  | [] => some []
  | [c] => if c.toNat = 92 ∨ c.toNat = 34 then none else some [c]
  | c :: d :: r => if c.toNat = 92 then (if d.toNat = 34 ∨ d.toNat = 92 then (docU r).map (d :: ·) else none) else if c.toNat = 34 then none else (docU (d :: r)).map (c :: ·)
theorem docU_plain {c : UInt8} (h : c.toNat ≠ 92) (h2 : c.toNat ≠ 34) (l : List UInt8) : docU (c :: l) = (docU l).map (c :: ·) := by
  cases l with
  | nil => simp only [docU]; rw [if_neg (by omega)]; rfl
  | cons d r => simp only [docU]; rw [if_neg h, if_neg h2]
theorem docU_quote {c : UInt8} (h : c.toNat = 34) (l : List UInt8) : docU (c :: l) = none := by
  cases l with
  | nil => simp only [docU]; rw [if_pos (.inr h)]
  | cons d r => simp only [docU]; rw [if_neg (by omega), if_pos h]
theorem docU_end {c : UInt8} (h : c.toNat = 92) : docU [c] = none := by simp only [docU]; rw [if_pos (.inl h)]
theorem docU_esc {c d : UInt8} (h : c.toNat = 92) (hd : d.toNat = 34 ∨ d.toNat = 92) (l : List UInt8) : docU (c :: d :: l) = (docU l).map (d :: ·) := by simp only [docU]; rw [if_pos h, if_pos hd]
theorem docU_bad {c d : UInt8} (h : c.toNat = 92) (hd : ¬ (d.toNat = 34 ∨ d.toNat = 92)) (l : List UInt8) : docU (c :: d :: l) = none := by simp only [docU]; rw [if_pos h, if_neg hd]
theorem doc_esc : ∀ l, docU (escV l) = some l
  | [] => rfl
  | c :: r => by
    simp only [escV]
    by_cases h : c.toNat = 34 ∨ c.toNat = 92
    · rw [if_pos h, docU_esc (by decide) h, doc_esc r]; rfl
    · rw [if_neg h, docU_plain (by omega) (by omega), doc_esc r]; rfl
/-- a value that may be and whose text l is, where l is no number's and neither true nor false, is a text's -/
theorem tx_text {l : List UInt8} {v : Val} (h1 : l ≠ trueL) (h2 : l ≠ falseL) (hn : ∀ n, In64 n → Lib.itoa n = l → False) (hi : In64 v.n) (hm : mayV v = true) (hp : prV v = l) : v.k = 3 ∧ v.n = 0 ∧ l = 34 :: (escV v.s.data.toList ++ [34]) := by
  have e : prV v = txV v := by unfold prV; rw [if_pos hm]
  rw [e] at hp
  unfold txV at hp
  unfold mayV at hm
  by_cases k1 : v.k = 1
  · rw [if_pos k1] at hp; exact (hn _ hi hp).elim
  · rw [if_neg k1] at hp hm
    by_cases k2 : v.k = 2
    · rw [if_pos k2] at hp
      split at hp
      · exact (h1 hp.symm).elim
      · exact (h2 hp.symm).elim
    · rw [if_neg k2] at hp hm
      by_cases k3 : v.k = 3
      · rw [if_pos k3] at hm
        simp only [Bool.and_eq_true, decide_eq_true_eq] at hm
        exact ⟨k3, hm.1, hp.symm⟩
      · rw [if_neg k3] at hm; cases hm
theorem par_true : parV trueL = some ⟨2, 1, ⟨#[]⟩⟩ := (par_iff (v := ⟨2, 1, ⟨#[]⟩⟩) ⟨by decide, by decide⟩).2 ⟨by decide, pr_true (by decide)⟩
theorem par_false : parV falseL = some ⟨2, 0, ⟨#[]⟩⟩ := (par_iff (v := ⟨2, 0, ⟨#[]⟩⟩) ⟨by decide, by decide⟩).2 ⟨by decide, pr_false (by decide) (by decide)⟩
theorem par_num {l : List UInt8} {z : Int} (h : NumIs l z true) : parV l = some ⟨1, z, ⟨#[]⟩⟩ :=
  (par_iff (v := ⟨1, z, ⟨#[]⟩⟩) h.1).2 ⟨by unfold mayV; rfl, by rw [pr_int (by unfold mayV; rfl)]; exact h.2.1 rfl⟩
theorem num_no {l : List UInt8} {z : Int} (h : NumIs l z false) : ∀ n, In64 n → Lib.itoa n = l → False := fun n h1 h2 => by have := (h.2.2 n h1 h2).1; cases this
theorem par_noq {l : List UInt8} (h1 : l ≠ trueL) (h2 : l ≠ falseL) (hn : ∀ n, In64 n → Lib.itoa n = l → False) (hq : ¬ (2 ≤ l.length ∧ (l.headD 0).toNat = 34)) : parV l = none :=
  (par_only (o := none) (fun v h => by cases h) (fun _ v hi hm hp => by
    obtain ⟨_, _, e⟩ := tx_text h1 h2 hn hi hm hp
    refine hq ?_
    rw [e]
    exact ⟨by simp, rfl⟩)).symm
theorem par_doc_none {l : List UInt8} (h1 : l ≠ trueL) (h2 : l ≠ falseL) (hn : ∀ n, In64 n → Lib.itoa n = l → False) (hd : docU (innerL l) = none) : parV l = none :=
  (par_only (o := none) (fun v h => by cases h) (fun _ v hi hm hp => by
    obtain ⟨_, _, e⟩ := tx_text h1 h2 hn hi hm hp
    rw [e, inner_quote, doc_esc] at hd
    cases hd)).symm
theorem par_doc_yes {l o : List UInt8} (h0 : l ≠ []) (hp : prV ⟨3, 0, ⟨o.toArray⟩⟩ = l) : parV l = some ⟨3, 0, ⟨o.toArray⟩⟩ := by
  refine (par_iff (v := ⟨3, 0, ⟨o.toArray⟩⟩) (show In64 0 from ⟨by decide, by decide⟩)).2 ⟨?_, hp⟩
  cases hm : mayV ⟨3, 0, ⟨o.toArray⟩⟩ with
  | true => rfl
  | false => rw [pr_no hm] at hp; exact (h0 hp.symm).elim
theorem par_doc_no {l o : List UInt8} (h1 : l ≠ trueL) (h2 : l ≠ falseL) (hn : ∀ n, In64 n → Lib.itoa n = l → False) (hd : docU (innerL l) = some o) (hp : prV ⟨3, 0, ⟨o.toArray⟩⟩ ≠ l) : parV l = none :=
  (par_only (o := none) (fun v h => by cases h) (fun _ v hi hm hv => by
    obtain ⟨k3, n0, e⟩ := tx_text h1 h2 hn hi hm hv
    rw [e, inner_quote, doc_esc] at hd
    injection hd with hd
    refine hp ?_
    rw [← hv]
    congr 1
    exact Val.ext' k3.symm n0.symm (ba_ext (by rw [← hd])))).symm
/-- what stands from a place on, but the end -/
def IT (s : ByteArray) (i : Nat) : List UInt8 := (s.data.toList.drop i).take (s.size - 1 - i)
theorem IT_one (s : ByteArray) : IT s 1 = innerL s.data.toList := by unfold IT innerL; rw [size_toList]; rfl
theorem IT_cons (s : ByteArray) (i : Nat) (h : i + 1 < s.size) : IT s i = s[i] :: IT s (i + 1) := by
  unfold IT
  rw [nxAt_cons s i (by omega), show s.size - 1 - i = (s.size - 1 - (i + 1)) + 1 by omega, List.take_succ_cons]
theorem IT_end (s : ByteArray) (i : Nat) (h : s.size ≤ i + 1) : IT s i = [] := by unfold IT; rw [show s.size - 1 - i = 0 by omega]; rfl
/-- what is read so far, and what is left -/
def Rd (s : ByteArray) (i : Nat) (o : List UInt8) : Prop := docU (IT s 1) = (docU (IT s i)).map (o ++ ·)
theorem Rd.start (s : ByteArray) : Rd s 1 [] := by unfold Rd; cases docU (IT s 1) <;> simp
theorem Rd.plain {s : ByteArray} {i : Nat} {o : List UInt8} (h : Rd s i o) (hi : i + 1 < s.size) (h1 : s[i].toNat ≠ 92) (h2 : s[i].toNat ≠ 34) : Rd s (i + 1) (o ++ [s[i]]) := by
  unfold Rd at *
  rw [h, IT_cons s i hi, docU_plain h1 h2]
  cases docU (IT s (i + 1)) <;> simp
theorem Rd.esc {s : ByteArray} {i : Nat} {o : List UInt8} (h : Rd s i o) (hi : i + 1 + 1 < s.size) (h1 : s[i].toNat = 92) (h2 : s[i + 1].toNat = 34 ∨ s[i + 1].toNat = 92) : Rd s (i + 2) (o ++ [s[i + 1]]) := by
  unfold Rd at *
  rw [h, IT_cons s i (by omega), IT_cons s (i + 1) hi, docU_esc h1 h2]
  cases docU (IT s (i + 1 + 1)) <;> simp
theorem Rd.quote {s : ByteArray} {i : Nat} {o : List UInt8} (h : Rd s i o) (hi : i + 1 < s.size) (h1 : s[i].toNat = 34) : docU (IT s 1) = none := by
  unfold Rd at h; rw [h, IT_cons s i hi, docU_quote h1]; rfl
theorem Rd.cut {s : ByteArray} {i : Nat} {o : List UInt8} (h : Rd s i o) (hi : i + 1 < s.size) (h2 : ¬ i + 1 + 1 < s.size) (h1 : s[i].toNat = 92) : docU (IT s 1) = none := by
  unfold Rd at h; rw [h, IT_cons s i hi, IT_end s (i + 1) (by omega), docU_end h1]; rfl
theorem Rd.bad {s : ByteArray} {i : Nat} {o : List UInt8} (h : Rd s i o) (hi : i + 1 + 1 < s.size) (h1 : s[i].toNat = 92) (h2 : ¬ (s[i + 1].toNat = 34 ∨ s[i + 1].toNat = 92)) : docU (IT s 1) = none := by
  unfold Rd at h; rw [h, IT_cons s i (by omega), IT_cons s (i + 1) hi, docU_bad h1 h2]; rfl
theorem Rd.done {s : ByteArray} {i : Nat} {o : List UInt8} (h : Rd s i o) (hi : s.size ≤ i + 1) : docU (IT s 1) = some o := by
  unfold Rd at h; rw [h, IT_end s i hi]; simp [docU]
set_option maxHeartbeats 16000000 in
set_option maxRecDepth 100000 in
theorem dParse_num (w : World) (s : ByteArray) (hs : s.size ≤ 140737488351232) (h1 : ¬ s.data.toList = trueL) (h2 : ¬ s.data.toList = falseL) : Calls Tryd.prog 18 #[.string s] w (PPost w (parV s.data.toList)) := by
  have e1 := beq_no h1
  have e2 := beq_no h2
  unfold trueL at e1
  unfold falseL at e2
  have HN := Lib.hid (fun W => number_any W s (by omega))
  have HB0 : Hid (Below w.heap.size w ((w.alloc (.cells #[.int .i64 0, .int .i64 0, .string ⟨#[]⟩] 23 (0, 0))).alloc (.cells #[.int .i64 0, .int .i64 0, .string ⟨#[]⟩] 23 (0, 0)))) := Lib.hid (((Below.refl _ _).alloc (Nat.le_refl _) _).alloc (by simp) _)
  have HR0 : Hid (Bx 23 ((w.alloc (.cells #[.int .i64 0, .int .i64 0, .string ⟨#[]⟩] 23 (0, 0))).alloc (.cells #[.int .i64 0, .int .i64 0, .string ⟨#[]⟩] 23 (0, 0))) w.heap.size #[.int .i64 0, .int .i64 0, .string ⟨#[]⟩]) := Lib.hid ((Bx.new w _ _).alloc _)
  have HE0 : Hid (Bx 23 ((w.alloc (.cells #[.int .i64 0, .int .i64 0, .string ⟨#[]⟩] 23 (0, 0))).alloc (.cells #[.int .i64 0, .int .i64 0, .string ⟨#[]⟩] 23 (0, 0))) (w.heap.size + 1) #[.int .i64 0, .int .i64 0, .string ⟨#[]⟩]) := Lib.hid (by have := Bx.new (w.alloc (.cells #[.int .i64 0, .int .i64 0, .string ⟨#[]⟩] 23 (0, 0))) 23 #[.int .i64 0, .int .i64 0, .string ⟨#[]⟩]; simpa using this)
  have H1 := Lib.hid h1
  have H2 := Lib.hid h2
  clear h1 h2
  go_enter Tryd.func18, Tryd.ntmps18
  go_wp2_with fail
  refine (HN.out _).mono ?_
  rintro e w3 ⟨z, b, hnum, rfl, hb3⟩
  have hr := HR0.out.below hb3 HR0.out.lt
  have he := HE0.out.below hb3 HE0.out.lt
  have HRb := Lib.hid hr
  have HEb := Lib.hid he
  have r0 := hr.c (j := 0) rfl
  have r1 := hr.c (j := 1) rfl
  have r2 := hr.c (j := 2) rfl
  have f0 := hr.fz 0
  have f1 := hr.fz 1
  have f2 := hr.fz 2
  have HBn := Lib.hid (HB0.out.trans (hb3.mono HB0.out.size))
  clear hr hb3
  cases b with
  | true =>
    have HV := Lib.hid (par_num hnum)
    have HX3 := Lib.hid (HRb.out.three (.int .i64 1) (.int .i64 z) (.string ⟨#[]⟩))
    have HB3 := Lib.hid (below_three HBn.out (Nat.le_refl _) (.int .i64 1) (.int .i64 z) (.string ⟨#[]⟩))
    clear hnum he
    go_wp2
    have y0 := HX3.out.c (j := 0) rfl
    have y1 := HX3.out.c (j := 1) rfl
    have y2 := HX3.out.c (j := 2) rfl
    refine bodyPost_ret (v := .tuple #[.agg #[.int .i64 1, .int .i64 z, .string ⟨#[]⟩], .bool true]) (by simp only [results, Tryd.results18]; simp [go_sem, y0, y1, y2]) rfl ?_
    exact ⟨by rw [HV.out]; rfl, HB3.out⟩
  | false =>
    have HNO := Lib.hid (num_no hnum)
    have n0 := he.c (j := 0) rfl
    have n1 := he.c (j := 1) rfl
    have n2 := he.c (j := 2) rfl
    have HX3 := Lib.hid (HRb.out.three (.int .i64 0) (.int .i64 0) (.string ⟨#[]⟩))
    have HB3 := Lib.hid (below_three HBn.out (Nat.le_refl _) (.int .i64 0) (.int .i64 0) (.string ⟨#[]⟩))
    clear hnum he
    by_cases hq : 2 ≤ s.size ∧ (s.data.toList.headD 0).toNat = 34
    · obtain ⟨hq1, hq2⟩ := hq
      have h0 : 0 < s.size := by omega
      rw [head_at h0] at hq2
      have q34 : ((s[0].toNat : Int) == 34) = true := beq_iff_eq.2 (by omega)
      have HNN := Lib.hid (fun hd => par_doc_none H1.out H2.out HNO.out (by rw [← IT_one]; exact hd))
      clear hq2 HX3 HB3 r0 r1 r2 f0 f1 f2 n0 n1 n2
      have hq1z : ¬ (s.size : Int) < 2 := by omega
      have q34n : ((s[0].toNat : Int) != 34) = false := by simp [bne, q34]
      go_wp2_with fail
      go_loopg [7, 8] s.size (fun kx v7 v8 wr => ∃ (i : Nat) (A : Option Addr) (m c : Nat) (o : List UInt8), v8 = .int .i64 (i : Int) ∧ v7 = .slice A m c ∧ 1 ≤ i ∧ i + 1 ≤ s.size ∧ s.size - i ≤ kx ∧ m ≤ i ∧ Hid (Rd s i o) ∧ Hid (wr.ownsRow w3.heap.size 5 1 (.slice A m c) m (bv o)) ∧ Hid (Below w3.heap.size w3 wr))
      case atStart => exact ⟨1, none, 0, 0, [], rfl, rfl, Nat.le_refl _, by omega, by omega, by omega, Lib.hid (Rd.start s), Lib.hid (World.ownsRow_nil _ _ _ _), Lib.hid (Below.refl _ _)⟩
      case round =>
        obtain ⟨i, A, m, c, o, rfl, rfl, hi1, his, hkx, hmi, HRD, HO, HB⟩ := hrel
        have hr := HRb.out.below HB.out HRb.out.lt
        have he := HEb.out.below HB.out HEb.out.lt
        have HRr := Lib.hid hr
        have HER := Lib.hid he
        have HBr := Lib.hid (HBn.out.trans (HB.out.mono HBn.out.size))
        by_cases hin : i + 1 < s.size
        · have HX3 := Lib.hid (hr.three (.int .i64 0) (.int .i64 0) (.string ⟨#[]⟩))
          have HB3 := Lib.hid (below_three HBr.out (Nat.le_refl _) (.int .i64 0) (.int .i64 0) (.string ⟨#[]⟩))
          have r0 := hr.c (j := 0) rfl
          have r1 := hr.c (j := 1) rfl
          have r2 := hr.c (j := 2) rfl
          have f0 := hr.fz 0
          have f1 := hr.fz 1
          have f2 := hr.fz 2
          have n0 := he.c (j := 0) rfl
          have n1 := he.c (j := 1) rfl
          have n2 := he.c (j := 2) rfl
          clear hr he
          have hmi2 : m + 1 ≤ 140737488355328 := by omega
          by_cases h92 : s[i].toNat = 92
          · have p92 : ((s[i].toNat : Int) == 92) = true := beq_iff_eq.2 (by omega)
            by_cases hin2 : i + 1 + 1 < s.size
            · by_cases hd : s[i + 1].toNat = 34 ∨ s[i + 1].toNat = 92
              · have HN2 := Lib.hid (HRD.out.esc hin2 h92 hd)
                clear h92 HX3 HB3
                by_cases h34 : s[i + 1].toNat = 34
                · have q34' : ((s[i + 1].toNat : Int) == 34) = true := beq_iff_eq.2 (by omega)
                  have r34 : ((s[i + 1].toNat : Int) != 34) = false := by simp [bne, q34']
                  have hc : s[i + 1] = 34 := UInt8.toNat_inj.1 h34
                  have HN3 := Lib.hid HN2.out
                  rw [hc] at HN3
                  clear hd h34 hc
                  go_wp2_with (first
                    | (at_builtin; refine wpList_append_hold rfl (.tmp 70) (.tmp 74) rfl w3.heap.size (.slice A m c) m o rfl (World.ownsRow.alloc HO.out _) (some ⟨wr.heap.size, 0, none⟩) 1 1 [s[i + 1]] rfl (Hold.new wr [s[i + 1]] 5 (0, 0) _ rfl) hmi2 (by have := HB.out.size; simp; omega) ?_; intro A1 c1 w1 hown1 hgrow1; have HB1 := Lib.hid (row_below HB.out HO.out hgrow1); have HO1 := Lib.hid hown1; clear hown1 hgrow1)
                    | (at_builtin; refine wpList_append_hold rfl (.tmp 70) (.tmp 74) rfl w3.heap.size (.slice A m c) m o rfl (World.ownsRow.alloc HO.out _) (some ⟨wr.heap.size, 0, none⟩) 1 1 [34] rfl (Hold.new wr [34] 5 (0, 0) _ rfl) hmi2 (by have := HB.out.size; simp; omega) ?_; intro A1 c1 w1 hown1 hgrow1; have HB1 := Lib.hid (row_below HB.out HO.out hgrow1); have HO1 := Lib.hid hown1; clear hown1 hgrow1))
                  go_roundg (s.size - (i + 2))
                  case measure => omega
                  case rel => first | exact ⟨i + 2, A1, m + 1, c1, o ++ [s[i + 1]], by go_num, rfl, by omega, by omega, Nat.le_refl _, by omega, HN2, HO1, HB1⟩ | exact ⟨i + 2, A1, m + 1, c1, o ++ [34], by go_num, rfl, by omega, by omega, Nat.le_refl _, by omega, HN3, HO1, HB1⟩
                · have q34' : ((s[i + 1].toNat : Int) == 34) = false := beq_eq_false_iff_ne.2 (by omega)
                  have q92' : ((s[i + 1].toNat : Int) == 92) = true := beq_iff_eq.2 (by omega)
                  have r34 : ((s[i + 1].toNat : Int) != 34) = true := by simp [bne, q34']
                  have r92 : ((s[i + 1].toNat : Int) != 92) = false := by simp [bne, q92']
                  have hc : s[i + 1] = 92 := UInt8.toNat_inj.1 (show s[i + 1].toNat = 92 by omega)
                  have HN3 := Lib.hid HN2.out
                  rw [hc] at HN3
                  clear hd h34 hc
                  go_wp2_with (first
                    | (at_builtin; refine wpList_append_hold rfl (.tmp 70) (.tmp 74) rfl w3.heap.size (.slice A m c) m o rfl (World.ownsRow.alloc HO.out _) (some ⟨wr.heap.size, 0, none⟩) 1 1 [s[i + 1]] rfl (Hold.new wr [s[i + 1]] 5 (0, 0) _ rfl) hmi2 (by have := HB.out.size; simp; omega) ?_; intro A1 c1 w1 hown1 hgrow1; have HB1 := Lib.hid (row_below HB.out HO.out hgrow1); have HO1 := Lib.hid hown1; clear hown1 hgrow1)
                    | (at_builtin; refine wpList_append_hold rfl (.tmp 70) (.tmp 74) rfl w3.heap.size (.slice A m c) m o rfl (World.ownsRow.alloc HO.out _) (some ⟨wr.heap.size, 0, none⟩) 1 1 [92] rfl (Hold.new wr [92] 5 (0, 0) _ rfl) hmi2 (by have := HB.out.size; simp; omega) ?_; intro A1 c1 w1 hown1 hgrow1; have HB1 := Lib.hid (row_below HB.out HO.out hgrow1); have HO1 := Lib.hid hown1; clear hown1 hgrow1))
                  go_roundg (s.size - (i + 2))
                  case measure => omega
                  case rel => first | exact ⟨i + 2, A1, m + 1, c1, o ++ [s[i + 1]], by go_num, rfl, by omega, by omega, Nat.le_refl _, by omega, HN2, HO1, HB1⟩ | exact ⟨i + 2, A1, m + 1, c1, o ++ [92], by go_num, rfl, by omega, by omega, Nat.le_refl _, by omega, HN3, HO1, HB1⟩
              · have q34' : ((s[i + 1].toNat : Int) == 34) = false := beq_eq_false_iff_ne.2 (by omega)
                have q92' : ((s[i + 1].toNat : Int) == 92) = false := beq_eq_false_iff_ne.2 (by omega)
                have r34 : ((s[i + 1].toNat : Int) != 34) = true := by simp [bne, q34']
                have r92 : ((s[i + 1].toNat : Int) != 92) = true := by simp [bne, q92']
                have HV := Lib.hid (HNN.out (HRD.out.bad hin2 h92 hd))
                clear h92 hd
                go_wp2_with fail
                have y0 := HX3.out.c (j := 0) rfl
                have y1 := HX3.out.c (j := 1) rfl
                have y2 := HX3.out.c (j := 2) rfl
                refine bodyPost_ret (v := .tuple #[.agg #[.int .i64 0, .int .i64 0, .string ⟨#[]⟩], .bool false]) (by simp only [results, Tryd.results18]; simp [go_sem, y0, y1, y2]) rfl ?_
                exact ⟨by rw [HV.out]; rfl, HB3.out⟩
            · have HV := Lib.hid (HNN.out (HRD.out.cut hin hin2 h92))
              clear h92
              go_wp2_with fail
              have y0 := HX3.out.c (j := 0) rfl
              have y1 := HX3.out.c (j := 1) rfl
              have y2 := HX3.out.c (j := 2) rfl
              refine bodyPost_ret (v := .tuple #[.agg #[.int .i64 0, .int .i64 0, .string ⟨#[]⟩], .bool false]) (by simp only [results, Tryd.results18]; simp [go_sem, y0, y1, y2]) rfl ?_
              exact ⟨by rw [HV.out]; rfl, HB3.out⟩
          · have p92 : ((s[i].toNat : Int) == 92) = false := beq_eq_false_iff_ne.2 (by omega)
            by_cases h34 : s[i].toNat = 34
            · have p34 : ((s[i].toNat : Int) == 34) = true := beq_iff_eq.2 (by omega)
              have HV := Lib.hid (HNN.out (HRD.out.quote hin h34))
              clear h34 h92
              go_wp2_with fail
              have y0 := HX3.out.c (j := 0) rfl
              have y1 := HX3.out.c (j := 1) rfl
              have y2 := HX3.out.c (j := 2) rfl
              refine bodyPost_ret (v := .tuple #[.agg #[.int .i64 0, .int .i64 0, .string ⟨#[]⟩], .bool false]) (by simp only [results, Tryd.results18]; simp [go_sem, y0, y1, y2]) rfl ?_
              exact ⟨by rw [HV.out]; rfl, HB3.out⟩
            · have p34 : ((s[i].toNat : Int) == 34) = false := beq_eq_false_iff_ne.2 (by omega)
              have HN2 := Lib.hid (HRD.out.plain hin h92 h34)
              clear h92 h34 HX3 HB3
              go_wp2_with (at_builtin; refine wpList_append_hold rfl (.tmp 70) (.tmp 74) rfl w3.heap.size (.slice A m c) m o rfl (World.ownsRow.alloc HO.out _) (some ⟨wr.heap.size, 0, none⟩) 1 1 [s[i]] rfl (Hold.new wr [s[i]] 5 (0, 0) _ rfl) hmi2 (by have := HB.out.size; simp; omega) ?_; intro A1 c1 w1 hown1 hgrow1; have HB1 := Lib.hid (row_below HB.out HO.out hgrow1); have HO1 := Lib.hid hown1; clear hown1 hgrow1)
              go_roundg (s.size - (i + 1))
              case measure => omega
              case rel => exact ⟨i + 1, A1, m + 1, c1, o ++ [s[i]], by go_num, rfl, by omega, by omega, Nat.le_refl _, by omega, HN2, HO1, HB1⟩
        · have HDO := Lib.hid (HRD.out.done (by omega))
          have hcv := conv_hold (Hold.of_own HO.out)
          have HPR := Lib.hid (fun W => dPrint_any W 3 0 ⟨o.toArray⟩ ⟨by decide, by decide⟩)
          clear hr he
          by_cases hp : prV ⟨3, 0, ⟨o.toArray⟩⟩ = s.data.toList
          · have HV := Lib.hid (par_doc_yes (l := s.data.toList) (o := o) (fun e => by have := congrArg List.length e; rw [size_toList] at this; have h2 : s.size = 0 := this; omega) hp)
            rw [hp, show (⟨s.data.toList.toArray⟩ : ByteArray) = s from ba_ext rfl] at HPR
            clear hp
            go_wp2_with (go_at_call 13; refine (HPR.out _).mono ?_; rintro e w5 ⟨rfl, hb5⟩; have hr5 := (HRr.out.alloc (.cells #[.int .i64 3, .int .i64 0, .string ⟨o.toArray⟩] 23 (0, 0))).below hb5 (by have := HRr.out.lt; simp; omega); have he5 := (HER.out.alloc (.cells #[.int .i64 3, .int .i64 0, .string ⟨o.toArray⟩] 23 (0, 0))).below hb5 (by have := HER.out.lt; simp; omega); have hv5 := (Bx.new wr 23 #[.int .i64 3, .int .i64 0, .string ⟨o.toArray⟩]).below hb5 (by simp); have r0 := hr5.c (j := 0) rfl; have r1 := hr5.c (j := 1) rfl; have r2 := hr5.c (j := 2) rfl; have f0 := hr5.fz 0; have f1 := hr5.fz 1; have f2 := hr5.fz 2; have n0 := he5.c (j := 0) rfl; have n1 := he5.c (j := 1) rfl; have n2 := he5.c (j := 2) rfl; have v0 := hv5.c (j := 0) rfl; have v1 := hv5.c (j := 1) rfl; have v2 := hv5.c (j := 2) rfl; have HX3 := Lib.hid (hr5.three (.int .i64 3) (.int .i64 0) (.string ⟨o.toArray⟩)); have HB3 := Lib.hid (below_three ((HBr.out.alloc HBr.out.size (.cells #[.int .i64 3, .int .i64 0, .string ⟨o.toArray⟩] 23 (0, 0))).trans (hb5.mono (by have := HBr.out.size; simp; omega))) (Nat.le_refl _) (.int .i64 3) (.int .i64 0) (.string ⟨o.toArray⟩)); clear hb5 hr5 he5 hv5)
            have y0 := HX3.out.c (j := 0) rfl
            have y1 := HX3.out.c (j := 1) rfl
            have y2 := HX3.out.c (j := 2) rfl
            refine bodyPost_ret (v := .tuple #[.agg #[.int .i64 3, .int .i64 0, .string ⟨o.toArray⟩], .bool true]) (by simp only [results, Tryd.results18]; simp [go_sem, y0, y1, y2]) rfl ?_
            exact ⟨by rw [HV.out]; rfl, HB3.out⟩
          · have HV := Lib.hid (par_doc_no (l := s.data.toList) (o := o) H1.out H2.out HNO.out (by rw [← IT_one]; exact HDO.out) hp)
            have hne : ((⟨(prV ⟨3, 0, ⟨o.toArray⟩⟩).toArray⟩ : ByteArray).toList == s.toList) = false := by
              refine beq_eq_false_iff_ne.2 (fun e => hp ?_)
              rw [ByteArray.toList_eq, ByteArray.toList_eq] at e
              simpa using e
            clear hp
            generalize (⟨(prV ⟨3, 0, ⟨o.toArray⟩⟩).toArray⟩ : ByteArray) = P at *
            go_wp2_with (go_at_call 13; refine (HPR.out _).mono ?_; rintro e w5 ⟨rfl, hb5⟩; have hr5 := (HRr.out.alloc (.cells #[.int .i64 3, .int .i64 0, .string ⟨o.toArray⟩] 23 (0, 0))).below hb5 (by have := HRr.out.lt; simp; omega); have he5 := (HER.out.alloc (.cells #[.int .i64 3, .int .i64 0, .string ⟨o.toArray⟩] 23 (0, 0))).below hb5 (by have := HER.out.lt; simp; omega); have hv5 := (Bx.new wr 23 #[.int .i64 3, .int .i64 0, .string ⟨o.toArray⟩]).below hb5 (by simp); have r0 := hr5.c (j := 0) rfl; have r1 := hr5.c (j := 1) rfl; have r2 := hr5.c (j := 2) rfl; have f0 := hr5.fz 0; have f1 := hr5.fz 1; have f2 := hr5.fz 2; have n0 := he5.c (j := 0) rfl; have n1 := he5.c (j := 1) rfl; have n2 := he5.c (j := 2) rfl; have v0 := hv5.c (j := 0) rfl; have v1 := hv5.c (j := 1) rfl; have v2 := hv5.c (j := 2) rfl; have HX3 := Lib.hid (hr5.three (.int .i64 0) (.int .i64 0) (.string ⟨#[]⟩)); have HB3 := Lib.hid (below_three ((HBr.out.alloc HBr.out.size (.cells #[.int .i64 3, .int .i64 0, .string ⟨o.toArray⟩] 23 (0, 0))).trans (hb5.mono (by have := HBr.out.size; simp; omega))) (Nat.le_refl _) (.int .i64 0) (.int .i64 0) (.string ⟨#[]⟩)); clear hb5 hr5 he5 hv5)
            have y0 := HX3.out.c (j := 0) rfl
            have y1 := HX3.out.c (j := 1) rfl
            have y2 := HX3.out.c (j := 2) rfl
            refine bodyPost_ret (v := .tuple #[.agg #[.int .i64 0, .int .i64 0, .string ⟨#[]⟩], .bool false]) (by simp only [results, Tryd.results18]; simp [go_sem, y0, y1, y2]) rfl ?_
            exact ⟨by rw [HV.out]; rfl, HB3.out⟩
    · have HV := Lib.hid (par_noq H1.out H2.out HNO.out (by rw [size_toList]; exact hq))
      have hq3 : ¬ (2 ≤ s.size) ∨ ∃ h : 0 < s.size, 2 ≤ s.size ∧ ((s[0].toNat : Int) == 34) = false := by
        by_cases hz : 2 ≤ s.size
        · refine .inr ⟨by omega, hz, beq_eq_false_iff_ne.2 (fun e => hq ⟨hz, ?_⟩)⟩
          rw [head_at (by omega)]; omega
        · exact .inl hz
      clear hq
      rcases hq3 with hz | ⟨h0, hz, q34⟩
      · have hz2 : (s.size : Int) < 2 := by omega
        go_wp2_with fail
        have y0 := HX3.out.c (j := 0) rfl
        have y1 := HX3.out.c (j := 1) rfl
        have y2 := HX3.out.c (j := 2) rfl
        refine bodyPost_ret (v := .tuple #[.agg #[.int .i64 0, .int .i64 0, .string ⟨#[]⟩], .bool false]) (by simp only [results, Tryd.results18]; simp [go_sem, y0, y1, y2]) rfl ?_
        exact ⟨by rw [HV.out]; rfl, HB3.out⟩
      · have hz2 : ¬ (s.size : Int) < 2 := by omega
        have q34n : ((s[0].toNat : Int) != 34) = true := by simp [bne, q34]
        go_wp2_with fail
        have y0 := HX3.out.c (j := 0) rfl
        have y1 := HX3.out.c (j := 1) rfl
        have y2 := HX3.out.c (j := 2) rfl
        refine bodyPost_ret (v := .tuple #[.agg #[.int .i64 0, .int .i64 0, .string ⟨#[]⟩], .bool false]) (by simp only [results, Tryd.results18]; simp [go_sem, y0, y1, y2]) rfl ?_
        exact ⟨by rw [HV.out]; rfl, HB3.out⟩
set_option maxHeartbeats 8000000 in
set_option maxRecDepth 100000 in
theorem dParse_any (w : World) (s : ByteArray) (hs : s.size ≤ 140737488351232) : Calls Tryd.prog 18 #[.string s] w (PPost w (parV s.data.toList)) := by
  by_cases h1 : s.data.toList = trueL
  · have HV : Hid (parV s.data.toList = some ⟨2, 1, ⟨#[]⟩⟩) := Lib.hid (by rw [h1]; exact par_true)
    have e1 := beq_yes h1
    unfold trueL at e1
    clear h1
    go_enter Tryd.func18, Tryd.ntmps18
    go_wp2
    refine bodyPost_ret (v := .tuple #[.agg #[.int .i64 2, .int .i64 1, .string ⟨#[]⟩], .bool true]) (by simp only [results, Tryd.results18]; simp [go_sem]) rfl ?_
    exact ⟨by rw [HV.out]; rfl, ((Below.refl _ _).alloc (Nat.le_refl _) _).alloc (by simp) _⟩
  by_cases h2 : s.data.toList = falseL
  · have HV : Hid (parV s.data.toList = some ⟨2, 0, ⟨#[]⟩⟩) := Lib.hid (by rw [h2]; exact par_false)
    have e1 := beq_no h1
    have e2 := beq_yes h2
    unfold trueL at e1
    unfold falseL at e2
    clear h1 h2
    go_enter Tryd.func18, Tryd.ntmps18
    go_wp2
    refine bodyPost_ret (v := .tuple #[.agg #[.int .i64 2, .int .i64 0, .string ⟨#[]⟩], .bool true]) (by simp only [results, Tryd.results18]; simp [go_sem]) rfl ?_
    exact ⟨by rw [HV.out]; rfl, ((Below.refl _ _).alloc (Nat.le_refl _) _).alloc (by simp) _⟩
  exact dParse_num w s hs h1 h2
end Go.Proofs.YtnmailhlncchmaaDoor
