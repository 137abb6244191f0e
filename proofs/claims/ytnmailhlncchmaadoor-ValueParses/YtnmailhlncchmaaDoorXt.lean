/-
  What is proved: contract of the document's Number. Conditions: those in each statement.
-/
import Derived.Test.YtnmailhlncchmaaDoorXo
import Derived.Test.YtnmailhlncchmaaDoorXd
namespace Go.Proofs.YtnmailhlncchmaaDoor
open Go.RowKit

/-- does a text begin with - ? -/
def negB (l : List UInt8) : Bool := decide ((l.headD 0).toNat = 45)
/-- the digits behind it -/
def digL (l : List UInt8) : List UInt8 := if negB l then l.drop 1 else l
def isDig (c : UInt8) : Prop := 48 ≤ c.toNat ∧ c.toNat ≤ 57
theorem dig_shape {n : Int} : digL (Lib.itoa n) = Lib.decDigits n.natAbs ∧ negB (Lib.itoa n) = decide (n < 0) := by
  by_cases h : n < 0
  · have e : Lib.itoa n = 45 :: Lib.decDigits n.natAbs := by unfold Lib.itoa; rw [if_pos h]
    have hb : negB (Lib.itoa n) = true := by rw [e]; rfl
    unfold digL
    rw [hb, if_pos rfl, e, decide_eq_true h]
    exact ⟨rfl, rfl⟩
  · have e : Lib.itoa n = Lib.decDigits n.natAbs := by unfold Lib.itoa; rw [if_neg h]; congr 1; omega
    have hb : negB (Lib.itoa n) = false := by
      rw [e]
      cases hd : Lib.decDigits n.natAbs with
      | nil => exact absurd hd (digits_ne _)
      | cons c r =>
        have := digits_all n.natAbs c (by rw [hd]; simp)
        exact decide_eq_false (by show ¬ c.toNat = 45; omega)
    unfold digL
    rw [hb, decide_eq_false h, e]
    exact ⟨rfl, rfl⟩
/-- the number z, and whether the text is its -/
def NumIs (l : List UInt8) (z : Int) (b : Bool) : Prop := In64 z ∧ (b = true → Lib.itoa z = l) ∧ ∀ n, In64 n → Lib.itoa n = l → b = true ∧ z = n
theorem num_none {l : List UInt8} (h : ∀ n, In64 n → Lib.itoa n = l → False) : NumIs l 0 false := ⟨⟨by decide, by decide⟩, (fun h => by cases h), fun n h1 h2 => (h n h1 h2).elim⟩
theorem num_len {l : List UInt8} (h : (digL l).length < 1 ∨ 19 < (digL l).length) : NumIs l 0 false := num_none (fun n hn e => by
  subst e
  rw [dig_shape.1] at h
  unfold In64 at hn
  rcases h with h | h
  · exact digits_ne n.natAbs (List.length_eq_zero_iff.1 (by omega))
  · have := digits_len n.natAbs 18 (by omega)
    omega)
theorem num_bad {l : List UInt8} {c : UInt8} (hc : c ∈ digL l) (h : ¬ isDig c) : NumIs l 0 false := num_none (fun n hn e => by
  subst e
  rw [dig_shape.1] at hc
  exact h (digits_all _ c hc))
theorem num_good {l : List UInt8} {z : Int} (hz : z = if negB l then IntKind.i64.wrap (-(IntKind.i64.wrap (dval (digL l) : Int))) else IntKind.i64.wrap (dval (digL l) : Int)) : NumIs l z (decide (Lib.itoa z = l)) := by
  refine ⟨?_, fun h => of_decide_eq_true h, fun n hn e => ?_⟩
  · unfold In64
    rw [hz]
    split <;> (rw [IntKind.wrap_i64]; omega)
  · subst e
    rw [dig_shape.1, dig_shape.2, dval_digits] at hz
    unfold In64 at hn
    have : z = n := by
      rw [hz]
      by_cases h : n < 0
      · rw [decide_eq_true h, if_pos rfl, IntKind.wrap_i64, IntKind.wrap_i64]; omega
      · rw [decide_eq_false h, if_neg (by simp), IntKind.wrap_i64]; omega
    subst this
    exact ⟨decide_eq_true rfl, rfl⟩
theorem dval_on (d : ByteArray) (i : Nat) (h : i < d.size) : dval (d.data.toList.take (i + 1)) = dval (d.data.toList.take i) * 10 + (d[i].toNat - 48) := by
  rw [List.take_add_one, List.getElem?_eq_getElem (by rw [size_toList]; exact h), str_at d i h]
  exact dval_snoc _ _
theorem pow_in {u i : Nat} (hi : i ≤ 18) (h : u < 10 ^ i) : u < 1000000000000000000 := Nat.lt_of_lt_of_le h (Nat.pow_le_pow_right (by omega) hi)
theorem pow_on {u i c : Nat} (h : u < 10 ^ i) (hc : c ≤ 9) : u * 10 + c < 10 ^ (i + 1) := by rw [Nat.pow_succ]; omega
def NPost (w : World) (l : List UInt8) (e : Ending) (w' : World) : Prop := ∃ z b, NumIs l z b ∧ e = .returned (.tuple #[.int .i64 z, .bool b]) ∧ Below w.heap.size w w'
theorem head_negB {s : ByteArray} (h : 0 < s.size) : negB s.data.toList = decide (s[0].toNat = 45) := by unfold negB; rw [head_at h]
set_option maxHeartbeats 8000000 in
set_option maxRecDepth 100000 in
theorem number_neg (w : World) (s : ByteArray) (hs : s.size ≤ 140737488355328) (h0 : 0 < s.size) (h45 : s[0].toNat = 45) : Calls Tryd.prog 36 #[.string s] w (NPost w s.data.toList) := by
  have hb : negB s.data.toList = true := by rw [head_negB h0, decide_eq_true h45]
  have q45 : ((s[0].toNat : Int) == 45) = true := beq_iff_eq.2 (by omega)
  have hdl : (s.extract 1 s.size).data.toList = digL s.data.toList := by
    unfold digL
    rw [hb, if_pos rfl, ByteArray.data_extract]
    simp
    exact List.take_of_length_le (by rw [List.length_tail, size_toList]; omega)
  have hds : (s.extract 1 s.size).size = s.size - 1 := by rw [ByteArray.size_extract]; omega
  have hlen : (digL s.data.toList).length = s.size - 1 := by rw [← hdl, size_toList, hds]
  by_cases hl : s.size - 1 < 1 ∨ 19 < s.size - 1
  · have HN := Lib.hid (num_len (l := s.data.toList) (by rw [hlen]; exact hl))
    clear hlen hdl hds
    rcases Nat.lt_or_ge (s.size - 1) 1 with hl1 | hl1
    all_goals
      go_enter Tryd.func36, Tryd.ntmps36
      go_wp2
      go_ret2
      exact ⟨0, false, HN.out, rfl, Below.refl _ _⟩
  · have HG := Lib.hid (fun z => num_good (l := s.data.toList) (z := z))
    have HBD := Lib.hid (fun (c : UInt8) (hc : c ∈ digL s.data.toList) (h : ¬ isDig c) => num_bad hc h)
    rw [hb] at HG
    rw [← hdl] at HG HBD
    have hd1 : 1 ≤ s.size - 1 := by omega
    have hd2 : s.size - 1 ≤ 19 := by omega
    have HDS := Lib.hid hds
    clear hlen hdl hds hb
    go_enter Tryd.func36, Tryd.ntmps36
    go_wp2
    generalize s.extract 1 s.size = d at *
    have hds := HDS.out
    go_loopg [5, 6] d.size (fun kx v5 v6 wr => ∃ u i : Nat, v5 = .int .u64 (u : Int) ∧ v6 = .int .i64 (i : Int) ∧ i ≤ d.size ∧ d.size - i ≤ kx ∧ Hid (u < 10 ^ i) ∧ Hid (u = dval (d.data.toList.take i)) ∧ Aside (w = wr))
    case atStart => exact ⟨0, 0, rfl, rfl, Nat.zero_le _, by omega, Lib.hid (by decide), Lib.hid rfl, rfl⟩
    case round =>
      obtain ⟨u, i, rfl, rfl, hi, hkx, HU, HV, hww⟩ := hrel
      obtain rfl : w = wr := hww
      by_cases he : i < d.size
      · have hu := pow_in (show i ≤ 18 by omega) HU.out
        have hc8 := UInt8.toNat_lt d[i]
        have hmem : d[i] ∈ d.data.toList := by rw [← str_at d i he (by rw [size_toList]; exact he)]; exact List.getElem_mem _
        by_cases hdg : isDig d[i]
        · have hdg1 := hdg.1
          have hdg2 := hdg.2
          have HU2 := Lib.hid (pow_on (c := d[i].toNat - 48) HU.out (by omega))
          have HV2 : Hid (u * 10 + (d[i].toNat - 48) = dval (d.data.toList.take (i + 1))) := Lib.hid (by rw [dval_on d i he, ← HV.out])
          clear hdg hmem
          go_wp2
          go_roundg (d.size - (i + 1))
          case measure => omega
          case rel => exact ⟨u * 10 + (d[i].toNat - 48), i + 1, congrArg (Value.int .u64) (by first | rfl | omega | (simp; omega)), by go_num, by omega, Nat.le_refl _, HU2, HV2, rfl⟩
        · have HN := Lib.hid (HBD.out _ hmem hdg)
          have hdd : d[i].toNat < 48 ∨ 57 < d[i].toNat := by unfold isDig at hdg; omega
          clear hdg hmem
          rcases hdd with hdd | hdd
          all_goals
            go_wp2
            go_ret2
            exact ⟨0, false, HN.out, rfl, Below.refl _ _⟩
      · have hT : d.data.toList.take i = d.data.toList := List.take_of_length_le (by rw [size_toList]; omega)
        rw [hT] at HV
        have HN := Lib.hid (HG.out _ (by rw [if_pos trivial, ← HV.out]))
        obtain ⟨z1, hz1⟩ : ∃ z1 : Int, z1 = IntKind.i64.wrap (u : Int) := ⟨_, rfl⟩
        rw [← hz1] at HN
        obtain ⟨z, hz2⟩ : ∃ z : Int, z = IntKind.i64.wrap (-z1) := ⟨_, rfl⟩
        rw [← hz2] at HN
        have e1 := hz1.symm
        have e2 : wrap64 (-z1) = z := by rw [hz2, IntKind.wrap_i64]; unfold wrap64; omega
        have hz : In64 z := HN.out.1
        have HD := Lib.hid (fun W => decimal_any W _ hz)
        have hlt : (d.size : Int) < (s.size : Int) := by omega
        clear hT HV HG HU hz hz1 hz2
        cases hq : decide (Lib.itoa (z) = s.data.toList) with
        | true =>
          rw [hq] at HN
          have hbq : (Lib.itoa z == s.toList) = true := by rw [ByteArray.toList_eq, of_decide_eq_true hq]; exact beq_self_eq_true _
          clear hq
          go_wp2_with (go_at_call 32; refine (HD.out _).mono ?_; rintro e w2 ⟨rfl, hb2⟩)
          go_ret2
          exact ⟨_, true, HN.out, rfl, hb2⟩
        | false =>
          rw [hq] at HN
          have hbq : (Lib.itoa z == s.toList) = false := beq_eq_false_iff_ne.2 (fun e => of_decide_eq_false hq (by rw [ByteArray.toList_eq] at e; exact e))
          clear hq
          go_wp2_with (go_at_call 32; refine (HD.out _).mono ?_; rintro e w2 ⟨rfl, hb2⟩)
          go_ret2
          exact ⟨_, false, HN.out, rfl, hb2⟩
set_option maxHeartbeats 8000000 in
set_option maxRecDepth 100000 in
theorem number_pos (w : World) (s : ByteArray) (hs : s.size ≤ 140737488355328) (h45 : s.size = 0 ∨ ∃ h : 0 < s.size, s[0].toNat ≠ 45) : Calls Tryd.prog 36 #[.string s] w (NPost w s.data.toList) := by
  have hb : negB s.data.toList = false := by
    rcases h45 with h | ⟨h, h2⟩
    · have : s.data.toList = [] := List.length_eq_zero_iff.1 (by rw [size_toList]; exact h)
      rw [this]; rfl
    · rw [head_negB h, decide_eq_false h2]
  have hdl : s.data.toList = digL s.data.toList := by unfold digL; rw [hb]; rfl
  have hlen : (digL s.data.toList).length = s.size := by rw [← hdl, size_toList]
  by_cases hl : s.size < 1 ∨ 19 < s.size
  · have HN := Lib.hid (num_len (l := s.data.toList) (by rw [hlen]; exact hl))
    clear hlen hdl
    rcases h45 with hz | ⟨h0, h45⟩
    · have hz2 : (s.size : Int) = 0 := by omega
      have hz3 : ¬ (0 : Int) < (s.size : Int) := by omega
      go_enter Tryd.func36, Tryd.ntmps36
      go_wp2
      go_ret2
      exact ⟨0, false, HN.out, rfl, Below.refl _ _⟩
    · have q45 : ((s[0].toNat : Int) == 45) = false := beq_eq_false_iff_ne.2 (by omega)
      have hz4 : 19 < s.size := by omega
      go_enter Tryd.func36, Tryd.ntmps36
      go_wp2
      go_ret2
      exact ⟨0, false, HN.out, rfl, Below.refl _ _⟩
  · obtain ⟨h0, h45⟩ : ∃ h : 0 < s.size, s[0].toNat ≠ 45 := by
      rcases h45 with h | h
      · omega
      · exact h
    have q45 : ((s[0].toNat : Int) == 45) = false := beq_eq_false_iff_ne.2 (by omega)
    have HG := Lib.hid (fun z => num_good (l := s.data.toList) (z := z))
    have HBD := Lib.hid (fun (c : UInt8) (hc : c ∈ digL s.data.toList) (h : ¬ isDig c) => num_bad hc h)
    rw [hb] at HG
    rw [← hdl] at HG HBD
    have hd1 : 1 ≤ s.size := by omega
    have hd2 : s.size ≤ 19 := by omega
    clear hlen hdl hb
    go_enter Tryd.func36, Tryd.ntmps36
    go_wp2
    go_loopg [5, 6] s.size (fun kx v5 v6 wr => ∃ u i : Nat, v5 = .int .u64 (u : Int) ∧ v6 = .int .i64 (i : Int) ∧ i ≤ s.size ∧ s.size - i ≤ kx ∧ Hid (u < 10 ^ i) ∧ Hid (u = dval (s.data.toList.take i)) ∧ Aside (w = wr))
    case atStart => exact ⟨0, 0, rfl, rfl, Nat.zero_le _, by omega, Lib.hid (by decide), Lib.hid rfl, rfl⟩
    case round =>
      obtain ⟨u, i, rfl, rfl, hi, hkx, HU, HV, hww⟩ := hrel
      obtain rfl : w = wr := hww
      by_cases he : i < s.size
      · have hu := pow_in (show i ≤ 18 by omega) HU.out
        have hc8 := UInt8.toNat_lt s[i]
        have hmem : s[i] ∈ s.data.toList := by rw [← str_at s i he (by rw [size_toList]; exact he)]; exact List.getElem_mem _
        by_cases hdg : isDig s[i]
        · have hdg1 := hdg.1
          have hdg2 := hdg.2
          have HU2 := Lib.hid (pow_on (c := s[i].toNat - 48) HU.out (by omega))
          have HV2 : Hid (u * 10 + (s[i].toNat - 48) = dval (s.data.toList.take (i + 1))) := Lib.hid (by rw [dval_on s i he, ← HV.out])
          clear hdg hmem
          go_wp2
          go_roundg (s.size - (i + 1))
          case measure => omega
          case rel => exact ⟨u * 10 + (s[i].toNat - 48), i + 1, congrArg (Value.int .u64) (by first | rfl | omega | (simp; omega)), by go_num, by omega, Nat.le_refl _, HU2, HV2, rfl⟩
        · have HN := Lib.hid (HBD.out _ hmem hdg)
          have hdd : s[i].toNat < 48 ∨ 57 < s[i].toNat := by unfold isDig at hdg; omega
          clear hdg hmem
          rcases hdd with hdd | hdd
          all_goals
            go_wp2
            go_ret2
            exact ⟨0, false, HN.out, rfl, Below.refl _ _⟩
      · have hT : s.data.toList.take i = s.data.toList := List.take_of_length_le (by rw [size_toList]; omega)
        rw [hT] at HV
        have HN := Lib.hid (HG.out _ (by rw [if_neg (by simp), ← HV.out]))
        obtain ⟨z, hz1⟩ : ∃ z : Int, z = IntKind.i64.wrap (u : Int) := ⟨_, rfl⟩
        rw [← hz1] at HN
        have e1 := hz1.symm
        have hz : In64 z := HN.out.1
        have HD := Lib.hid (fun W => decimal_any W _ hz)
        have hlt : ¬ (s.size : Int) < (s.size : Int) := by omega
        clear hT HV HG HU hz hz1
        cases hq : decide (Lib.itoa (z) = s.data.toList) with
        | true =>
          rw [hq] at HN
          have hbq : (Lib.itoa z == s.toList) = true := by rw [ByteArray.toList_eq, of_decide_eq_true hq]; exact beq_self_eq_true _
          clear hq
          go_wp2_with (go_at_call 32; refine (HD.out _).mono ?_; rintro e w2 ⟨rfl, hb2⟩)
          go_ret2
          exact ⟨_, true, HN.out, rfl, hb2⟩
        | false =>
          rw [hq] at HN
          have hbq : (Lib.itoa z == s.toList) = false := beq_eq_false_iff_ne.2 (fun e => of_decide_eq_false hq (by rw [ByteArray.toList_eq] at e; exact e))
          clear hq
          go_wp2_with (go_at_call 32; refine (HD.out _).mono ?_; rintro e w2 ⟨rfl, hb2⟩)
          go_ret2
          exact ⟨_, false, HN.out, rfl, hb2⟩
theorem number_any (w : World) (s : ByteArray) (hs : s.size ≤ 140737488355328) : Calls Tryd.prog 36 #[.string s] w (NPost w s.data.toList) := by
  by_cases h : 0 < s.size
  · by_cases h45 : s[0].toNat = 45
    · exact number_neg w s hs h h45
    · exact number_pos w s hs (.inr ⟨h, h45⟩)
  · exact number_pos w s hs (.inl (by omega))
end Go.Proofs.YtnmailhlncchmaaDoor
