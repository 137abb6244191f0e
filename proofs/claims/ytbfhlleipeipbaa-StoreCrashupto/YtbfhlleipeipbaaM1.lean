/-
  What is proved: the texts Af, Bm, Cb, Co, Cs, Ce, Cf2 in one: what each proves stands ahead of it. Conditions: those in each statement.
-/
import Derived.Test.YtbfhlleipeipbaaAm
import Derived.Test.YtbfhlleipeipbaaJp
import Derived.Test.YtbfhlleipeipbaaM6
import Derived.Test.YtbfhlleipeipbaaSsd
import Derived.Deep.MidRow
import Derived.ChangeKeysEq
/- What is proved: the contract of store.after: what the changes make of the pairs, in memory of its own. Conditions: those in each statement. -/
namespace Go.Proofs.Ytbfhlleipeipbaa
open Go.Shelf Go.RowKit Go.Lib Go.Sort

theorem HC.elem {w : World} {A : Option Addr} {n c : Nat} {l : List Cg} (h : HC w A n c l) (j : Nat) (hj : j < l.length) : ∃ b o, A = some ⟨b, o, none⟩ ∧ b < w.heap.size ∧
    w.cell? ⟨b, o + j * 3, none⟩ = some (.string l[j].key) ∧ w.cell? ⟨b, o + j * 3 + 1, none⟩ = some (.string l[j].val) ∧ w.cell? ⟨b, o + j * 3 + 2, none⟩ = some (.bool l[j].gone) := by
  have hn := h.1
  obtain ⟨b, o, hA, hlt, hH⟩ := h.2.2.1 (by omega)
  have get : l.toArray[j]! = l[j] := by simp [hj]
  have c0 := (hH.cell (i := j) (c := 0) (by simpa using hj) (by decide)).1
  have c1 := (hH.cell (i := j) (c := 1) (by simpa using hj) (by decide)).1
  have c2 := (hH.cell (i := j) (c := 2) (by simpa using hj) (by decide)).1
  rw [get] at c0 c1 c2
  exact ⟨b, o, hA, hlt, c0, c1, c2⟩
theorem HC.take {w : World} {A : Option Addr} {n c : Nat} {l : List Cg} (h : HC w A n c l) {i : Nat} (hi : i ≤ n) : HC w A i c (l.take i) := by
  have hn := h.1
  have hc := h.2.1
  refine ⟨by rw [List.length_take]; omega, by omega, fun h0 => ?_, h.2.2.2⟩
  obtain ⟨b, o, hA, hlt, hH⟩ := h.2.2.1 (by omega)
  refine ⟨b, o, hA, hlt, holdsK_take hH (n := i) (by rw [List.length_take]; omega) (by simpa using (by omega : i ≤ l.length)) ?_⟩
  apply List.ext_getElem
  · rw [seg_length, List.length_take]; omega
  · intro t h1 h2
    rw [seg_get, List.getElem_take, Nat.zero_add]
    have : t < l.length := by rw [List.length_take] at h2; omega
    simp [this]
theorem HC.drop {w : World} {A A' : Option Addr} {n c i : Nat} {l : List Cg} (h : HC w A n c l) (hi : i ≤ n) (hA' : c ≠ i → A' = A.map (·.add (i * 3))) (hA0 : c = i → A' = A) : HC w A' (n - i) (c - i) (l.drop i) := by
  have hn := h.1
  have hc := h.2.1
  have key : A' = none ∨ ∃ b o, A' = some ⟨b, o, none⟩ := by
    by_cases hci : c = i
    · rw [hA0 hci]; exact h.2.2.2
    · rw [hA' hci]
      rcases h.2.2.2 with rfl | ⟨b, o, rfl⟩
      · exact .inl rfl
      · exact .inr ⟨b, o + i * 3, by rw [Option.map_some, Addr.add_lit]⟩
  refine ⟨by rw [List.length_drop, hn], by omega, fun h0 => ?_, key⟩
  obtain ⟨b, o, hA, hlt, hH⟩ := h.2.2.1 (by omega)
  refine ⟨b, o + i * 3, by rw [hA' (by omega), hA, Option.map_some, Addr.add_lit], hlt, fun t ht => ?_⟩
  have ht' : t < (l.length - i) * 3 := by simpa using ht
  have h1 := hH (i * 3 + t) (by rw [size_flatK]; simp; omega)
  rw [flatK_get3 l _ (by omega)] at h1
  rw [flatK_get3 (l.drop i) t (by simpa using ht'), Nat.add_assoc]
  have e : (chV (l.drop i))[t]'(by rw [chV_length, List.length_drop]; exact ht') = (chV l)[i * 3 + t]'(by rw [chV_length]; omega) := by
    have a1 := chV_get (l.drop i) (t / 3) (t % 3) (by rw [List.length_drop]; omega) (by omega)
    have a2 := chV_get l (i + t / 3) (t % 3) (by omega) (by omega)
    rw [show t / 3 * 3 + t % 3 = t by omega, List.getElem?_eq_getElem (by rw [chV_length, List.length_drop]; exact ht')] at a1
    rw [show (i + t / 3) * 3 + t % 3 = i * 3 + t by omega, List.getElem?_eq_getElem (by rw [chV_length]; omega)] at a2
    rw [List.getElem_drop] at a1
    rw [← a2] at a1
    exact Option.some.inj a1
  rw [e]; exact h1

theorem own_below52 {w w' : World} {base n : Nat} {v : Value} {xs : List Value} (h : w.ownsRow base 52 3 v n xs) (hb : Below w.heap.size w w') : w'.ownsRow base 52 3 v n xs :=
  h.kept (row := none) ⟨hb.os, hb.tape, hb.output, hb.size, fun k hk _ => hb.block k hk⟩ (by
    cases hv : v.ownBlock with
    | none => exact .inl rfl
    | some b => exact .inr (by simp))

theorem isIn_lt {Q : List Cg} {t : List UInt8} (h : isIn Q t = true) : lowN Q t < Q.length := by
  have h1 := (low_parts t Q).2
  unfold isIn at h
  have h2 : (Q.drop (lowN Q t)).length = (Q.dropWhile (lessT t)).length := by rw [h1]
  rw [List.length_drop] at h2
  have := lowN_le Q t
  cases hd : Q.dropWhile (lessT t) with
  | nil => rw [hd] at h; cases h
  | cons y D => rw [hd] at h2; simp at h2; omega
theorem after_step {M L Q P : List Cg} {j i : Nat} {x : Cg} {f : Bool} (hj : j < L.length) (hx : x = L[j]) (hi : i = lowN Q (ky x)) (hf : f = isIn Q (ky x)) (h : M ++ mrg (L.drop j) Q = mrg L P) :
    M ++ Q.take i ++ (if x.gone then [] else [x]) ++ mrg (L.drop (j + 1)) (Q.drop (i + if f then 1 else 0)) = mrg L P := by
  rw [← h, List.drop_eq_getElem_cons hj, ← hx]
  subst hi hf
  show _ = M ++ (Q.take (lowN Q (ky x)) ++ (if x.gone then [] else [x]) ++ mrg (L.drop (j + 1)) (restOf Q (ky x)))
  unfold restOf
  simp only [List.append_assoc]
/-- what a round of 'after' hands on -/
theorem after_hands {w1 : World} {A0 A' : Option Addr} {n0 c0 i : Nat} {Q : List Cg} (h : HC w1 A0 n0 c0 Q) (hz : A0 = none → c0 = 0) (ha : Asc Q) (hi : i ≤ n0) (hA' : c0 ≠ i → A' = A0.map (·.add (i * 3))) (hA0 : c0 = i → A' = A0) :
    HC w1 A' (n0 - i) (c0 - i) (Q.drop i) ∧ (A' = none → c0 - i = 0) ∧ Asc (Q.drop i) := by
  refine ⟨h.drop hi hA' hA0, fun e => ?_, List.Pairwise.sublist (List.drop_sublist _ _) ha⟩
  by_cases hc : c0 = i
  · omega
  · rw [hA' hc] at e
    cases A0 with
    | none => have := hz rfl; omega
    | some a => cases e

theorem HC.new (w : World) (l : List Cg) (C : Array Value) (hC : C = (chV l).toArray) (g n : Nat) (hg : g = w.heap.size) (hn : n = l.length) : HC (w.alloc (.cells C 52)) (some ⟨g, 0, none⟩) n n l := by
  subst hg hn hC
  refine ⟨rfl, Nat.le_refl _, fun _ => ⟨w.heap.size, 0, rfl, by simp, fun t ht => ?_⟩, .inr ⟨_, _, rfl⟩⟩
  have ht' : t < l.length * 3 := by simpa using ht
  rw [flatK_get3 l t ht']
  refine ⟨?_, by unfold World.frozen?; rw [heap_alloc_new]; simp⟩
  rw [cell_of_row _ w.heap.size (0 + t) (chV l).toArray 52 (0, 0) (heap_alloc_new w _)]
  simp [List.getElem?_eq_getElem (show t < (chV l).length by rw [chV_length]; exact ht')]

set_option maxHeartbeats 8000000 in
set_option maxRecDepth 1000000 in
theorem after_any (A1 : Option Addr) (n1 c1 : Nat) (P : List Cg) (A2 : Option Addr) (n2 c2 : Nat) (l : List Cg) (w : World) (h1 : HC w A1 n1 c1 P) (hz : A1 = none → c1 = 0) (h2 : HC w A2 n2 c2 l) (hP : Asc P) (hb : (n1 + n2) * 40 ≤ 140737488355328) :
    Calls Try.prog 48 #[.slice A1 n1 c1, .slice A2 n2 c2] w fun e w' => ∃ A n c, e = .returned (.slice A n c) ∧ w'.ownsRow w.heap.size 52 3 (.slice A n c) n (chV (allC P l)) ∧ n ≤ n1 + n2 ∧ Below w.heap.size w w' := by
  have hlo := lastOfEach_any A2 n2 c2 l w h2 (by omega)
  have H1 : Aside (HC w A1 n1 c1 P) := h1
  have HZ : Aside (A1 = none → c1 = 0) := hz
  have HP : Aside (Asc P) := hP
  clear h1 h2 hz hP
  go_enter Try.func48, Try.ntmps48
  go_wp2_with (go_at_call 76; refine hlo.mono ?_; clear hlo; rintro e w1 ⟨AL, N, cL, L, rfl, hL, hlast, hN, hb1⟩)
  have HL : Aside (HC w1 AL N cL L) := hL
  have LO : Aside (LastOf l L) := hlast
  have B1 : Aside (Below w.heap.size w w1) := hb1
  have H1' : Aside (HC w1 A1 n1 c1 P) := H1.out.below hb1
  clear hL hlast hb1 H1
  go_loopg [0, 5, 7, 8, 9, 13] N (fun kx v0 v5 _ _ _ v13 wr => ∃ (j : Nat) (A0 : Option Addr) (n0 c0 : Nat) (Q : List Cg) (A5 : Option Addr) (n5 c5 : Nat) (M : List Cg), v0 = .slice A0 n0 c0 ∧ v5 = .slice A5 n5 c5 ∧ v13 = .int .i64 (j : Int) ∧ j ≤ N ∧ N - j ≤ kx ∧ n5 + n0 + (N - j) ≤ n1 + n2 ∧
    Aside (HC w1 A0 n0 c0 Q) ∧ Aside (A0 = none → c0 = 0) ∧ Aside (Asc Q) ∧ Aside (wr.ownsRow w1.heap.size 52 3 (.slice A5 n5 c5) n5 (chV M)) ∧ Aside (Below w1.heap.size w1 wr) ∧ Aside (M ++ mrg (L.drop j) Q = mrg L P))
  case atStart => exact ⟨0, A1, n1, c1, P, none, 0, 0, [], rfl, rfl, rfl, Nat.zero_le _, Nat.le_refl _, by omega, H1', HZ, HP, (World.ownsRow_nil w1 w1.heap.size 52 3 : Aside _), (Below.refl _ _ : Aside _), (rfl : Aside _)⟩
  case round =>
    obtain ⟨j, A0, n0, c0, Q, A5, n5, c5, M, rfl, rfl, rfl, hjN, hkx, hsum, HQ, HZ0, HA, HO, HB, HE⟩ := hrel
    by_cases hlt : j < N
    · have hltz : (j : Int) < (N : Int) := by omega
      have hjl : j < L.length := by rw [HL.out.1]; exact hlt
      obtain ⟨x, hx⟩ : ∃ x, x = L[j] := ⟨_, rfl⟩
      obtain ⟨b, o, eA, hbl, e0, e1, e2⟩ := HL.out.elem j hjl
      rw [← hx] at e0 e1 e2
      have d0 := (HB.out.cell (p := ⟨b, o + j * 3, none⟩) hbl).trans e0
      have d1 := (HB.out.cell (p := ⟨b, o + j * 3 + 1, none⟩) hbl).trans e1
      have d2 := (HB.out.cell (p := ⟨b, o + j * 3 + 2, none⟩) hbl).trans e2
      obtain ⟨xk, xv, xg⟩ := x
      simp only at d0 d1 d2
      have pj : (0 : Int) ≤ (j : Int) := by omega
      have HX : Aside _ := hx
      clear e0 e1 e2 hx
      subst eA
      have hbV : Below w1.heap.size w1 (wr.alloc (.cells #[.string xk, .string xv, .bool xg] 52)) := HB.out.alloc HB.out.size _
      have hfind := find_any A0 n0 c0 Q xk (wr.alloc (.cells #[.string xk, .string xv, .bool xg] 52)) (HQ.out.below hbV) HA.out (by have := HQ.out.2.1; omega)
      have BV : Aside (Below w1.heap.size w1 (wr.alloc (.cells #[.string xk, .string xv, .bool xg] 52))) := hbV
      clear hbV
      obtain ⟨i, hi⟩ : ∃ i, i = lowN Q xk.data.toList := ⟨_, rfl⟩
      obtain ⟨f, hf⟩ : ∃ f, f = isIn Q xk.data.toList := ⟨_, rfl⟩
      rw [← hi, ← hf] at hfind
      have hin : i ≤ n0 := by rw [hi, ← HQ.out.1]; exact lowN_le _ _
      have hnc : n0 ≤ c0 := HQ.out.2.1
      have HI : Aside (i = lowN Q xk.data.toList ∧ f = isIn Q xk.data.toList) := ⟨hi, hf⟩
      clear hi hf
      have pi0 : (0 : Int) ≤ (i : Int) := by omega
      have pic : (i : Int) ≤ (c0 : Int) := by omega
      go_upto_region 6 with (go_at_call 40; refine hfind.mono ?_; clear hfind; rintro e w2 ⟨rfl, hb2⟩)
      have B2 : Aside (Below w1.heap.size w1 w2) := BV.out.trans (hb2.mono BV.out.size)
      have X0 : Aside (w2.cell? ⟨wr.heap.size, 0, none⟩ = some (.string xk)) := box_cell hb2 0 rfl
      have X1 : Aside (w2.cell? ⟨wr.heap.size, 1, none⟩ = some (.string xv)) := box_cell hb2 1 rfl
      have X2 : Aside (w2.cell? ⟨wr.heap.size, 2, none⟩ = some (.bool xg)) := box_cell hb2 2 rfl
      have HO2 : Aside (w2.ownsRow w1.heap.size 52 3 (.slice A5 n5 c5) n5 (chV M)) := own_below52 (HO.out.alloc _) hb2
      have HT : Aside (HC w2 A0 i c0 (Q.take i)) := (HQ.out.below B2.out).take hin
      have OB : Aside (∀ q, (Value.slice A5 n5 c5).ownBlock = some q → w1.heap.size ≤ q ∧ q < wr.heap.size) := HO.out.lt
      clear hb2 BV HO HB d0 d1 d2
      have hby : (n5 + i) * 40 ≤ 140737488355328 := by omega
      go_upto_region 7 with (at_builtin; (with_reducible refine wpList_append_hc rfl (.tmp 24) (.tmp 27) rfl w1.heap.size (.slice A5 n5 c5) n5 M rfl HO2.out A0 i c0 (Q.take i) rfl HT.out HZ0.out hby B2.out.size ?_); intro A6 c6 w3 hown3 hgrow3)
      have B3 : Aside (RowKit.Below w1.heap.size w1 w3) := B2.out.grown hgrow3 B2.out.size (fun q hq => (OB.out q hq).1)
      have hne : some wr.heap.size ≠ (Value.slice A5 n5 c5).ownBlock := fun e => by have := (OB.out _ e.symm).2; omega
      have y0 : w3.cell? ⟨wr.heap.size, 0, none⟩ = some (.string xk) := hgrow3.cell X0.out hne
      have y1 : w3.cell? ⟨wr.heap.size, 1, none⟩ = some (.string xv) := hgrow3.cell X1.out hne
      have y2 : w3.cell? ⟨wr.heap.size, 2, none⟩ = some (.bool xg) := hgrow3.cell X2.out hne
      have HO3 : Aside (w3.ownsRow w1.heap.size 52 3 (.slice A6 (n5 + i) c6) (n5 + i) (chV (M ++ Q.take i))) := hown3
      clear hown3 hgrow3 hne X0 X1 X2 HO2 HT OB B2
      generalize wr.heap.size = bx at *
      cases xg with
      | true =>
        cases f with
        | true =>
          have hi1 : i + 1 ≤ n0 := by
            have h1 := isIn_lt HI.out.2.symm
            rw [← HI.out.1] at h1
            have := HQ.out.1
            omega
          have pi1 : (0 : Int) ≤ (i : Int) + 1 := by omega
          have pic1 : (i : Int) + 1 ≤ (n0 : Int) := by omega
          have e3 : M ++ Q.take i ++ mrg (L.drop (j + 1)) (Q.drop (i + 1)) = mrg L P := by simpa using after_step hjl HX.out HI.out.1 HI.out.2 HE.out
          have E3 : Aside _ := e3
          clear e3
          have G : Aside _ := fun A' => after_hands (A' := A') (i := (i + 1)) HQ.out HZ0.out HA.out hi1
          by_cases hcc : c0 = (i + 1)
          · subst hcc
            go_wp2_with fail
            have G1 : Aside _ := G.out _ (fun e => absurd rfl e) (fun _ => rfl)
            go_roundg (N - (j + 1))
            case measure => omega
            case rel => exact ⟨j + 1, A0, n0 - (i + 1), (i + 1) - (i + 1), Q.drop (i + 1), A6, n5 + i, c6, M ++ Q.take i, by first | rfl | (congr 1 <;> omega), rfl, by go_num, by omega, Nat.le_refl _, by omega, (G1.out.1 : Aside _), (G1.out.2.1 : Aside _), (G1.out.2.2 : Aside _), (HO3.out : Aside _), (B3.out : Aside _), E3⟩
          · go_wp2_with fail
            have G1 : Aside _ := G.out _ (fun _ => rfl) (fun e => absurd e hcc)
            go_roundg (N - (j + 1))
            case measure => omega
            case rel => exact ⟨j + 1, A0.map (·.add ((i + 1) * 3)), n0 - (i + 1), c0 - (i + 1), Q.drop (i + 1), A6, n5 + i, c6, M ++ Q.take i, by first | rfl | (congr 1 <;> omega), rfl, by go_num, by omega, Nat.le_refl _, by omega, (G1.out.1 : Aside _), (G1.out.2.1 : Aside _), (G1.out.2.2 : Aside _), (HO3.out : Aside _), (B3.out : Aside _), E3⟩
        | false =>
          have hi1 : i ≤ n0 := hin
          have pic1 : (i : Int) ≤ (n0 : Int) := by omega
          have e3 : M ++ Q.take i ++ mrg (L.drop (j + 1)) (Q.drop i) = mrg L P := by simpa using after_step hjl HX.out HI.out.1 HI.out.2 HE.out
          have E3 : Aside _ := e3
          clear e3
          have G : Aside _ := fun A' => after_hands (A' := A') (i := i) HQ.out HZ0.out HA.out hi1
          by_cases hcc : c0 = i
          · subst hcc
            go_wp2_with fail
            have G1 : Aside _ := G.out _ (fun e => absurd rfl e) (fun _ => rfl)
            go_roundg (N - (j + 1))
            case measure => omega
            case rel => exact ⟨j + 1, A0, n0 - c0, c0 - c0, Q.drop c0, A6, n5 + c0, c6, M ++ Q.take c0, by first | rfl | (congr 1 <;> omega), rfl, by go_num, by omega, Nat.le_refl _, by omega, (G1.out.1 : Aside _), (G1.out.2.1 : Aside _), (G1.out.2.2 : Aside _), (HO3.out : Aside _), (B3.out : Aside _), E3⟩
          · go_wp2_with fail
            have G1 : Aside _ := G.out _ (fun _ => rfl) (fun e => absurd e hcc)
            go_roundg (N - (j + 1))
            case measure => omega
            case rel => exact ⟨j + 1, A0.map (·.add (i * 3)), n0 - i, c0 - i, Q.drop i, A6, n5 + i, c6, M ++ Q.take i, by first | rfl | (congr 1 <;> omega), rfl, by go_num, by omega, Nat.le_refl _, by omega, (G1.out.1 : Aside _), (G1.out.2.1 : Aside _), (G1.out.2.2 : Aside _), (HO3.out : Aside _), (B3.out : Aside _), E3⟩
      | false =>
        cases f with
        | true =>
          have hi1 : i + 1 ≤ n0 := by
            have h1 := isIn_lt HI.out.2.symm
            rw [← HI.out.1] at h1
            have := HQ.out.1
            omega
          have pi1 : (0 : Int) ≤ (i : Int) + 1 := by omega
          have pic1 : (i : Int) + 1 ≤ (n0 : Int) := by omega
          have e3 : M ++ Q.take i ++ [(⟨xk, xv, false⟩ : Cg)] ++ mrg (L.drop (j + 1)) (Q.drop (i + 1)) = mrg L P := by simpa using after_step hjl HX.out HI.out.1 HI.out.2 HE.out
          have E3 : Aside _ := e3
          clear e3
          have G : Aside _ := fun A' => after_hands (A' := A') (i := (i + 1)) HQ.out HZ0.out HA.out hi1
          have hby1 : (n5 + i + 1) * 40 ≤ 140737488355328 := by omega
          have HO4 := Lib.hid (HO3.out.alloc (.cells #[.string xk, .string xv, .bool false] 52))
          have HN := Lib.hid (HC.new w3 [⟨xk, xv, false⟩] #[.string xk, .string xv, .bool false] rfl w3.heap.size 1 rfl rfl)
          have OB3 := Lib.hid (HO3.out.lt)
          by_cases hcc : c0 = (i + 1)
          · subst hcc
            go_wp2_with (at_builtin; (with_reducible refine wpList_append_hc rfl (.tmp 32) (.tmp 34) rfl w1.heap.size (.slice A6 (n5 + i) c6) (n5 + i) (M ++ Q.take i) rfl HO4.out (some ⟨w3.heap.size, 0, none⟩) 1 1 [⟨xk, xv, false⟩] rfl HN.out (fun e => by cases e) hby1 (by have := B3.out.size; simp; omega) ?_); intro A7 c7 w4 hown4 hgrow4; have HO5 := Lib.hid hown4; have B4 := Lib.hid ((B3.out.alloc B3.out.size _).grown hgrow4 (by have := B3.out.size; simp; omega) (fun q hq => (OB3.out q hq).1)); clear hown4 hgrow4)
            have G1 : Aside _ := G.out _ (fun e => absurd rfl e) (fun _ => rfl)
            go_roundg (N - (j + 1))
            case measure => omega
            case rel => exact ⟨j + 1, A0, n0 - (i + 1), (i + 1) - (i + 1), Q.drop (i + 1), A7, n5 + i + 1, c7, M ++ Q.take i ++ [(⟨xk, xv, false⟩ : Cg)], by first | rfl | (congr 1 <;> omega), rfl, by go_num, by omega, Nat.le_refl _, by omega, (G1.out.1 : Aside _), (G1.out.2.1 : Aside _), (G1.out.2.2 : Aside _), (HO5.out : Aside _), (B4.out : Aside _), E3⟩
          · go_wp2_with (at_builtin; (with_reducible refine wpList_append_hc rfl (.tmp 32) (.tmp 34) rfl w1.heap.size (.slice A6 (n5 + i) c6) (n5 + i) (M ++ Q.take i) rfl HO4.out (some ⟨w3.heap.size, 0, none⟩) 1 1 [⟨xk, xv, false⟩] rfl HN.out (fun e => by cases e) hby1 (by have := B3.out.size; simp; omega) ?_); intro A7 c7 w4 hown4 hgrow4; have HO5 := Lib.hid hown4; have B4 := Lib.hid ((B3.out.alloc B3.out.size _).grown hgrow4 (by have := B3.out.size; simp; omega) (fun q hq => (OB3.out q hq).1)); clear hown4 hgrow4)
            have G1 : Aside _ := G.out _ (fun _ => rfl) (fun e => absurd e hcc)
            go_roundg (N - (j + 1))
            case measure => omega
            case rel => exact ⟨j + 1, A0.map (·.add ((i + 1) * 3)), n0 - (i + 1), c0 - (i + 1), Q.drop (i + 1), A7, n5 + i + 1, c7, M ++ Q.take i ++ [(⟨xk, xv, false⟩ : Cg)], by first | rfl | (congr 1 <;> omega), rfl, by go_num, by omega, Nat.le_refl _, by omega, (G1.out.1 : Aside _), (G1.out.2.1 : Aside _), (G1.out.2.2 : Aside _), (HO5.out : Aside _), (B4.out : Aside _), E3⟩
        | false =>
          have hi1 : i ≤ n0 := hin
          have pic1 : (i : Int) ≤ (n0 : Int) := by omega
          have e3 : M ++ Q.take i ++ [(⟨xk, xv, false⟩ : Cg)] ++ mrg (L.drop (j + 1)) (Q.drop i) = mrg L P := by simpa using after_step hjl HX.out HI.out.1 HI.out.2 HE.out
          have E3 : Aside _ := e3
          clear e3
          have G : Aside _ := fun A' => after_hands (A' := A') (i := i) HQ.out HZ0.out HA.out hi1
          have hby1 : (n5 + i + 1) * 40 ≤ 140737488355328 := by omega
          have HO4 := Lib.hid (HO3.out.alloc (.cells #[.string xk, .string xv, .bool false] 52))
          have HN := Lib.hid (HC.new w3 [⟨xk, xv, false⟩] #[.string xk, .string xv, .bool false] rfl w3.heap.size 1 rfl rfl)
          have OB3 := Lib.hid (HO3.out.lt)
          by_cases hcc : c0 = i
          · subst hcc
            go_wp2_with (at_builtin; (with_reducible refine wpList_append_hc rfl (.tmp 32) (.tmp 34) rfl w1.heap.size (.slice A6 (n5 + c0) c6) (n5 + c0) (M ++ Q.take c0) rfl HO4.out (some ⟨w3.heap.size, 0, none⟩) 1 1 [⟨xk, xv, false⟩] rfl HN.out (fun e => by cases e) hby1 (by have := B3.out.size; simp; omega) ?_); intro A7 c7 w4 hown4 hgrow4; have HO5 := Lib.hid hown4; have B4 := Lib.hid ((B3.out.alloc B3.out.size _).grown hgrow4 (by have := B3.out.size; simp; omega) (fun q hq => (OB3.out q hq).1)); clear hown4 hgrow4)
            have G1 : Aside _ := G.out _ (fun e => absurd rfl e) (fun _ => rfl)
            go_roundg (N - (j + 1))
            case measure => omega
            case rel => exact ⟨j + 1, A0, n0 - c0, c0 - c0, Q.drop c0, A7, n5 + c0 + 1, c7, M ++ Q.take c0 ++ [(⟨xk, xv, false⟩ : Cg)], by first | rfl | (congr 1 <;> omega), rfl, by go_num, by omega, Nat.le_refl _, by omega, (G1.out.1 : Aside _), (G1.out.2.1 : Aside _), (G1.out.2.2 : Aside _), (HO5.out : Aside _), (B4.out : Aside _), E3⟩
          · go_wp2_with (at_builtin; (with_reducible refine wpList_append_hc rfl (.tmp 32) (.tmp 34) rfl w1.heap.size (.slice A6 (n5 + i) c6) (n5 + i) (M ++ Q.take i) rfl HO4.out (some ⟨w3.heap.size, 0, none⟩) 1 1 [⟨xk, xv, false⟩] rfl HN.out (fun e => by cases e) hby1 (by have := B3.out.size; simp; omega) ?_); intro A7 c7 w4 hown4 hgrow4; have HO5 := Lib.hid hown4; have B4 := Lib.hid ((B3.out.alloc B3.out.size _).grown hgrow4 (by have := B3.out.size; simp; omega) (fun q hq => (OB3.out q hq).1)); clear hown4 hgrow4)
            have G1 : Aside _ := G.out _ (fun _ => rfl) (fun e => absurd e hcc)
            go_roundg (N - (j + 1))
            case measure => omega
            case rel => exact ⟨j + 1, A0.map (·.add (i * 3)), n0 - i, c0 - i, Q.drop i, A7, n5 + i + 1, c7, M ++ Q.take i ++ [(⟨xk, xv, false⟩ : Cg)], by first | rfl | (congr 1 <;> omega), rfl, by go_num, by omega, Nat.le_refl _, by omega, (G1.out.1 : Aside _), (G1.out.2.1 : Aside _), (G1.out.2.2 : Aside _), (HO5.out : Aside _), (B4.out : Aside _), E3⟩
    · obtain rfl : j = N := by omega
      have hltz : ¬ (j : Int) < (j : Int) := by omega
      have hby : (n5 + n0) * 40 ≤ 140737488355328 := by omega
      have HT := Lib.hid (HQ.out.below HB.out)
      go_wp2_with (at_builtin; (with_reducible refine wpList_append_hc rfl (.tmp 43) (.tmp 44) rfl w1.heap.size (.slice A5 n5 c5) n5 M rfl HO.out A0 n0 c0 Q rfl HT.out HZ0.out hby HB.out.size ?_); intro A6 c6 w3 hown3 hgrow3)
      go_ret
      have e1 := HE.out
      rw [List.drop_of_length_le (by rw [HL.out.1]; exact Nat.le_refl _), show mrg [] Q = Q from rfl, mrg_all HP.out LO.out] at e1
      rw [e1] at hown3
      exact ⟨A6, n5 + n0, c6, rfl, own_mono hown3 B1.out.size, by omega, B1.out.trans ((HB.out.grown hgrow3 HB.out.size (fun q hq => (HO.out.lt q hq).1)).mono B1.out.size)⟩
end Go.Proofs.Ytbfhlleipeipbaa

/- What is proved: plain facts on a batch's bytes: read again they are the batch, but for the values of what is gone, which mean nothing. No program in it. No condition but those in each statement. -/
namespace Go.Proofs.Ytbfhlleipeipbaa
open Go.Lib Go.Sort

def vl (c : Cg) : List UInt8 := c.val.data.toList
/-- A text's bytes: how many there are, and they. -/
def txB (l : List UInt8) : List UInt8 := dig (l.length : Int) ++ l
def chB (c : Cg) : List UInt8 := txB (ky c) ++ ([if c.gone then 1 else 0] ++ if c.gone then [] else txB (vl c))
def chsB (l : List Cg) : List UInt8 := (l.map chB).flatten
def batB (l : List Cg) : List UInt8 := dig (l.length : Int) ++ chsB l
/-- What is read of a change: of what is gone no value. -/
def norm (c : Cg) : Cg := if c.gone then ⟨c.key, ⟨#[]⟩, true⟩ else c
theorem txB_length (l : List UInt8) : (txB l).length = 8 + l.length := by unfold txB; rw [List.length_append, dig_length]
theorem chB_length (c : Cg) : (chB c).length = 9 + (ky c).length + if c.gone then 0 else 8 + (vl c).length := by
  unfold chB
  rw [List.length_append, List.length_append, txB_length]
  cases c.gone
  · rw [if_neg Bool.false_ne_true, if_neg Bool.false_ne_true, txB_length]; simp; omega
  · simp; omega
theorem chsB_cons (c : Cg) (l : List Cg) : chsB (c :: l) = chB c ++ chsB l := rfl
theorem chsB_append (a b : List Cg) : chsB (a ++ b) = chsB a ++ chsB b := by unfold chsB; rw [List.map_append, List.flatten_append]
theorem chsB_len : ∀ l : List Cg, 9 * l.length ≤ (chsB l).length
  | [] => Nat.le_refl _
  | c :: l => by
    have := chsB_len l
    rw [chsB_cons, List.length_append, chB_length, List.length_cons]
    omega
theorem batB_length (l : List Cg) : (batB l).length = 8 + (chsB l).length := by unfold batB; rw [List.length_append, dig_length]
theorem norm_ky (c : Cg) : ky (norm c) = ky c := by unfold norm; split <;> rfl
theorem norm_gone (c : Cg) : (norm c).gone = c.gone := by
  unfold norm
  split
  · rename_i h; rw [h]
  · rfl
theorem stInt_dig (n : Int) (r : List UInt8) (h1 : -9223372036854775808 ≤ n) (h2 : n ≤ 9223372036854775807) : stInt (some (dig n ++ r)) = (n, some r) := by
  unfold stInt left stTake
  have h8 : (dig n).length = 8 := dig_length n
  rw [if_pos (by rw [Option.getD_some, List.length_append, h8]; omega), Option.getD_some, List.take_append_of_le_length (by omega), List.take_of_length_le (by omega), rd_dig n h1 h2, Option.map_some, List.drop_append_of_le_length (by omega), List.drop_of_length_le (by omega), List.nil_append]
theorem stCount_dig (n : Nat) (least : Nat) (r : List UInt8) (hl : 1 ≤ least) (hr : r.length ≤ 281474976710656) (h : n * least ≤ r.length) : stCount (least : Int) (some (dig (n : Int) ++ r)) = ((n : Int), some r) := by
  have hn : n ≤ r.length := Nat.le_trans (Nat.le_mul_of_pos_right n hl) h
  rw [stCount_good _ _ ?_, stInt_dig _ _ (by omega) (by omega)]
  rw [stInt_dig _ _ (by omega) (by omega), show max (least : Int) 1 = (least : Int) by omega]
  simp only [left, Option.getD_some]
  have h2 : n ≤ r.length / least := (Nat.le_div_iff_mul_le hl).2 h
  have h3 : ((r.length : Int) / (least : Int)) = ((r.length / least : Nat) : Int) := rfl
  rw [h3]
  omega
theorem stText_tx (l r : List UInt8) (hr : l.length + r.length ≤ 281474976710656) : stText (some (txB l ++ r)) = (l, some r) := by
  have hc : stCount 1 (some (txB l ++ r)) = ((l.length : Int), some (l ++ r)) := by
    unfold txB
    rw [List.append_assoc]
    exact stCount_dig l.length 1 (l ++ r) (Nat.le_refl _) (by rw [List.length_append]; exact hr) (by rw [List.length_append]; omega)
  unfold stText
  rw [hc]
  simp only [left, stTake, Option.getD_some, Option.map_some, Int.toNat_natCast, List.take_left', List.drop_left']
theorem stBool_byte (b : Bool) (r : List UInt8) : stBool (some ((if b then 1 else 0) :: r)) = (b, some r) := by
  cases b <;> simp [stBool, left, stTake]
/-! ### what is gone has no value -/
theorem doGo_gone {c c' : Cg} (h : ky c = ky c') : ∀ l : List Cg, doGo c true l = doGo c' true l
  | [] => rfl
  | x :: l => by
    unfold doGo
    rw [h, doGo_gone h l]
    rfl
theorem doC_norm (l : List Cg) (c : Cg) : doC l (norm c) = doC l c := by
  unfold doC
  rw [norm_gone]
  cases hg : c.gone with
  | false => unfold norm; rw [hg]; rfl
  | true => exact doGo_gone (by rw [bare_ky, bare_ky, norm_ky]) l
theorem allC_norm (P : List Cg) : ∀ l : List Cg, allC P (l.map norm) = allC P l := by
  intro l
  induction l generalizing P with
  | nil => rfl
  | cons c l ih =>
    show allC (doC P (norm c)) (l.map norm) = allC (doC P c) l
    rw [doC_norm, ih]
theorem allC_append (P a b : List Cg) : allC P (a ++ b) = allC (allC P a) b := by unfold allC; rw [List.foldl_append]
theorem chB_norm (c : Cg) : chB (norm c) = chB c := by
  unfold chB
  rw [norm_ky, norm_gone]
  unfold norm
  cases c.gone <;> rfl
theorem batB_norm (l : List Cg) : batB (l.map norm) = batB l := by
  unfold batB chsB
  rw [List.length_map, List.map_map]
  congr 3
  funext c
  exact chB_norm c
theorem norm_live {c : Cg} (h : c.gone = false) : norm c = c := by unfold norm; rw [h]; rfl
/-- no pair is gone -/
def Live (l : List Cg) : Prop := ∀ c ∈ l, c.gone = false
theorem doC_live {l : List Cg} (h : Live l) (ha : Asc l) (c : Cg) : Live (doC l c) := fun z hz => by
  rcases (doGo_spec (bare c) l c.gone ha).2.1 z hz with ⟨_, rfl⟩ | h1
  · rfl
  · exact h z h1
theorem doC_asc {l : List Cg} (ha : Asc l) (c : Cg) : Asc (doC l c) := (doGo_spec (bare c) l c.gone ha).1
theorem allC_live : ∀ (b l : List Cg), Live l → Asc l → Live (allC l b)
  | [], _, h, _ => h
  | c :: b, l, h, ha => allC_live b (doC l c) (doC_live h ha c) (doC_asc ha c)
/-- Of rising pairs that live the snapshot makes just these. -/
theorem allC_snap {P : List Cg} (ha : Asc P) (hl : Live P) : allC [] P = P := by
  obtain ⟨a1, a2⟩ := allC_spec P [] List.Pairwise.nil
  refine asc_unique _ _ a1 ha fun k => ?_
  rw [a2 k]
  have hrev : P.reverse.find? (hasKey k) = P.find? (hasKey k) := by
    cases hf : P.find? (hasKey k) with
    | none =>
      refine List.find?_eq_none.2 fun x hx => ?_
      exact List.find?_eq_none.1 hf x (List.mem_reverse.1 hx)
    | some c =>
      have hc := List.mem_of_find?_eq_some hf
      have hk := hasKey_iff.1 (List.find?_some hf)
      cases hr : P.reverse.find? (hasKey k) with
      | none => exact absurd (List.find?_some hf) (List.find?_eq_none.1 hr c (List.mem_reverse.2 hc))
      | some d =>
        have hd := List.mem_reverse.1 (List.mem_of_find?_eq_some hr)
        have hkd := hasKey_iff.1 (List.find?_some hr)
        obtain ⟨i, hi, ei⟩ := List.getElem_of_mem hc
        obtain ⟨j, hj, ej⟩ := List.getElem_of_mem hd
        have := List.pairwise_iff_getElem.1 ha
        rcases Nat.lt_trichotomy i j with h | h | h
        · exact absurd (by rw [ei, ej, hk, hkd]) (klt_ne (this i j hi hj h))
        · subst h; rw [← ei, ← ej]
        · exact absurd (by rw [ei, ej, hk, hkd]) (klt_ne (this j i hj hi h))
  rw [hrev]
  cases hf : P.find? (hasKey k) with
  | none => rfl
  | some c =>
    have hg := hl c (List.mem_of_find?_eq_some hf)
    show (if c.gone then none else some (bare c)) = _
    rw [hg, if_neg Bool.false_ne_true, bare_self hg]
end Go.Proofs.Ytbfhlleipeipbaa

/- What is proved: the contracts of store.changeBytes and store.bytesOf: a batch's bytes, in new memory. Conditions: those in each statement. -/
namespace Go.Proofs.Ytbfhlleipeipbaa
open Go.RowKit

theorem putText_row (A : Option Addr) (n c : Nat) (l : List UInt8) (s : ByteArray) (w : World) (h : Hold w A n c l) (hn : n + s.size ≤ 281474976710000) :
    Calls Try.prog 85 #[.slice A n c, .string s] w (NewRow w (l ++ txB s.data.toList)) := by
  have := putText_any A n c l s w h hn
  unfold txB
  rw [List.append_assoc] at this
  exact this
/-- what the operations of changeBytes' first line yield -/
def cbF (B bx : Nat) (k : ByteArray) (gn : Bool) : Nat → Value → World → Prop
  | 0, v, _ => v = .pointer (some ⟨bx, 0, none⟩)
  | 1, v, _ => v = .string k
  | 2, v, w => ∃ A n c, v = .slice A n c ∧ w.ownsRow B 5 1 v n (bv (txB k.data.toList))
  | 3, v, _ => v = .pointer (some ⟨bx, 2, none⟩)
  | 4, v, _ => v = .bool gn
  | 5, v, w => ∃ A n c, v = .slice A n c ∧ w.ownsRow B 5 1 v n (bv (txB k.data.toList ++ [if gn then 1 else 0]))
  | 6, v, w => ∃ A n c, v = .slice A n c ∧ w.ownsRow B 5 1 v n (bv (txB k.data.toList ++ [if gn then 1 else 0]))
  | _, _, _ => True
theorem cbF_mono (B bx : Nat) (k : ByteArray) (gn : Bool) (i : Nat) (v : Value) (w w' : World) (h : cbF B bx k gn i v w) (hb : Below w.heap.size w w') : cbF B bx k gn i v w' := by
  match i with
  | 0 => exact h
  | 1 => exact h
  | 2 => obtain ⟨A, n, c, e, ho⟩ := h; exact ⟨A, n, c, e, own_below ho hb⟩
  | 3 => exact h
  | 4 => exact h
  | 5 => obtain ⟨A, n, c, e, ho⟩ := h; exact ⟨A, n, c, e, own_below ho hb⟩
  | 6 => obtain ⟨A, n, c, e, ho⟩ := h; exact ⟨A, n, c, e, own_below ho hb⟩
  | _ + 7 => trivial
theorem box3 {w : World} {g : Nat} {x y z : Value} {t : TypeId} (h : w.heap[g]? = some (.cells #[x, y, z] t (0, 0))) : w.cell? ⟨g, 0, none⟩ = some x ∧ w.cell? ⟨g, 1, none⟩ = some y ∧ w.cell? ⟨g, 2, none⟩ = some z := by
  refine ⟨?_, ?_, ?_⟩
  · rw [cell_of_row w g 0 _ t (0, 0) h]; rfl
  · rw [cell_of_row w g 1 _ t (0, 0) h]; rfl
  · rw [cell_of_row w g 2 _ t (0, 0) h]; rfl
theorem size_toList (s : ByteArray) : s.data.toList.length = s.size := by rw [Array.length_toList]; rfl

set_option maxRecDepth 100000 in
set_option maxHeartbeats 1000000 in
theorem changeBytes_any (k v : ByteArray) (gn : Bool) (w : World) (hs : k.size + v.size ≤ 1099511627776) :
    Calls Try.prog 57 #[.agg #[.string k, .string v, .bool gn]] w (NewRow w (chB ⟨k, v, gn⟩)) := by
  have hk : k.data.toList.length = k.size := size_toList k
  have HK := Lib.hid hk
  clear hk
  go_enter Try.func57, Try.ntmps57
  go_wp2_with fail
  have hbox : (w.alloc (.cells #[.string k, .string v, .bool gn] 52)).drew.heap[w.heap.size]? = some (.cells #[.string k, .string v, .bool gn] 52 (0, 0)) := heap_alloc_new w _
  have HX := Lib.hid hbox
  have hb0 : Below w.heap.size w (w.alloc (.cells #[.string k, .string v, .bool gn] 52)).drew := ((Below.refl _ _).alloc (Nat.le_refl _) _).drew
  have HB0 := Lib.hid hb0
  clear hbox hb0
  refine wp_region_steps (cbF w.heap.size w.heap.size k gn) (fun w w' => Below w.heap.size w w') (by kernel_rfl) (by kernel_rfl) (fun w => Below.refl _ _) (fun _ _ _ h k => h.trans (k.mono h.size)) (cbF_mono _ _ _ _) ?_ ?_
  · refine ⟨?_, ?_, ?_, ?_, ?_, ?_, ?_, trivial⟩
    · intro a V hR hoff hd
      left
      refine ⟨rfl, ?_⟩
      have e0 : a.tmps.getD 1 undef = .pointer (some ⟨w.heap.size, 0, none⟩) := hoff.slot 1 (no_dst (by kernel_rfl))
      go_simp
      exact ⟨_, rfl, rfl, Below.refl _ _⟩
    · intro a V hR hoff hd
      left
      refine ⟨rfl, ?_⟩
      have e0 : a.tmps.getD 4 undef = .pointer (some ⟨w.heap.size, 0, none⟩) := hd 0 _ rfl rfl
      obtain ⟨c0, c1, c2⟩ := box3 ((hR.block _ (Array.getElem?_eq_some_iff.1 HX.out).1).trans HX.out)
      go_simp
      exact ⟨_, rfl, rfl, Below.refl _ _⟩
    · intro a V hR hoff hd
      left
      refine ⟨rfl, ?_⟩
      have e0 : a.tmps.getD 5 undef = .string k := hd 1 _ rfl rfl
      go_simp
      refine (putText_row none 0 0 [] k V (Hold.nil V) (by omega)).mono ?_
      rintro e V2 ⟨A, n, c, rfl, ho, hb2⟩
      rw [List.nil_append] at ho
      exact ⟨_, rfl, ⟨A, n, c, rfl, own_mono ho (Nat.le_trans (by simp) hR.size)⟩, hb2⟩
    · intro a V hR hoff hd
      left
      refine ⟨rfl, ?_⟩
      have e0 : a.tmps.getD 1 undef = .pointer (some ⟨w.heap.size, 0, none⟩) := hoff.slot 1 (no_dst (by kernel_rfl))
      go_simp
      exact ⟨_, rfl, rfl, Below.refl _ _⟩
    · intro a V hR hoff hd
      left
      refine ⟨rfl, ?_⟩
      have e0 : a.tmps.getD 7 undef = .pointer (some ⟨w.heap.size, 2, none⟩) := hd 3 _ rfl rfl
      obtain ⟨c0, c1, c2⟩ := box3 ((hR.block _ (Array.getElem?_eq_some_iff.1 HX.out).1).trans HX.out)
      go_simp
      exact ⟨_, rfl, rfl, Below.refl _ _⟩
    · intro a V hR hoff hd
      left
      refine ⟨rfl, ?_⟩
      obtain ⟨A, n, c, e0, ho⟩ : ∃ A n c, a.tmps.getD 6 undef = .slice A n c ∧ V.ownsRow w.heap.size 5 1 (a.tmps.getD 6 undef) n (bv (txB k.data.toList)) := hd 2 _ rfl rfl
      have e1 : a.tmps.getD 8 undef = .bool gn := hd 4 _ rfl rfl
      rw [e0] at ho
      have hl := (Hold.of_own ho).1
      rw [txB_length, HK.out] at hl
      go_simp
      refine (putBool_any A n c _ gn V (Hold.of_own ho) (by omega)).mono ?_
      rintro e V2 ⟨A2, n2, c2, rfl, ho2, hb2⟩
      exact ⟨_, rfl, ⟨A2, n2, c2, rfl, own_mono ho2 (Nat.le_trans (by simp) hR.size)⟩, hb2⟩
    · intro a V hR hoff hd
      left
      refine ⟨rfl, ?_⟩
      obtain ⟨A, n, c, e0, ho⟩ : ∃ A n c, a.tmps.getD 9 undef = .slice A n c ∧ V.ownsRow w.heap.size 5 1 (a.tmps.getD 9 undef) n (bv (txB k.data.toList ++ [if gn then 1 else 0])) := hd 5 _ rfl rfl
      rw [e0] at ho
      go_simp
      exact ⟨_, rfl, ⟨A, n, c, rfl, ho⟩, Below.refl _ _⟩
  · intro a V hR hoff hd
    obtain ⟨A, n, c, e3, ho⟩ : ∃ A n c, a.tmps.getD 3 undef = .slice A n c ∧ V.ownsRow w.heap.size 5 1 (a.tmps.getD 3 undef) n (bv (txB k.data.toList ++ [if gn then 1 else 0])) := hd 6 _ rfl
    rw [e3] at ho
    obtain ⟨ys, hys, ha⟩ := off_form hoff (mask := [false, false, false, true, true, true, true, true, true, true, false, false, false, false, false, false, false]) (by kernel_rfl)
    rw [hys] at e3
    subst ha
    simp only [fillFrom, Nat.zero_add, Nat.reduceAdd] at *
    rw [e3]
    obtain ⟨c0, c1, c2⟩ := box3 ((hR.block _ (Array.getElem?_eq_some_iff.1 HX.out).1).trans HX.out)
    have HO := Lib.hid ho
    have hbV : Below w.heap.size w V := HB0.out.trans (hR.mono HB0.out.size)
    have HBV := Lib.hid hbV
    clear ho e3 hys hoff hd hR hbV
    rename_i hK
    refine hK _ _ ?_
    cases gn with
    | true =>
      go_wp2_with fail
      go_ret
      exact ⟨A, n, c, rfl, HO.out, HBV.out⟩
    | false =>
      have hl := (Hold.of_own HO.out).1
      rw [List.length_append, txB_length, HK.out] at hl
      simp only [List.length_cons, List.length_nil] at hl
      have hn : n + v.size ≤ 281474976710000 := by omega
      have HT := Lib.hid (putText_row A n c _ v V (Hold.of_own HO.out) hn)
      clear hl
      go_wp2_with (go_at_call 85; refine HT.out.mono ?_; rintro e w2 ⟨A2, n2, c2, rfl, ho2, hb2⟩)
      go_ret
      refine ⟨A2, n2, c2, rfl, ?_, HBV.out.trans (hb2.mono HBV.out.size)⟩
      rw [List.append_assoc] at ho2
      exact own_mono ho2 HBV.out.size

theorem batB_ih (l : List Cg) (j : Nat) (h : j < l.length) : chsB (l.take (j + 1)) = chsB (l.take j) ++ chB l[j] := by
  rw [List.take_succ_eq_append_getElem h, chsB_append]; simp [chsB]
theorem chsB_le (l : List Cg) (j : Nat) : (chsB (l.take j)).length ≤ (chsB l).length := by
  conv => rhs; rw [← List.take_append_drop j l, chsB_append, List.length_append]
  omega
theorem chB_le (l : List Cg) (j : Nat) (h : j < l.length) : (chsB (l.take j)).length + (chB l[j]).length ≤ (chsB l).length := by
  have := chsB_le l (j + 1)
  rwa [batB_ih l j h, List.length_append] at this

set_option maxRecDepth 100000 in
set_option maxHeartbeats 1000000 in
theorem bytesOf_any (A : Option Addr) (n c : Nat) (l : List Cg) (w : World) (h : HC w A n c l) (hs : (chsB l).length ≤ 1099511627776) (hv : ∀ x ∈ l, x.key.size + x.val.size ≤ 1099511627776) :
    Calls Try.prog 34 #[.slice A n c] w (NewRow w (batB l)) := by
  have hn := h.1
  have hnl : n ≤ 1099511627776 := by have := chsB_len l; omega
  have HP := Lib.hid (putInt_any none 0 0 [] (n : Int) w (Hold.nil w) (by omega))
  have H := Lib.hid h
  have HN := Lib.hid hn
  have HV := Lib.hid hv
  clear h hn hv
  go_enter Try.func34, Try.ntmps34
  go_wp2_with (go_at_call 56; refine HP.out.mono ?_; rintro e w1 ⟨A1, n1, c1, rfl, ho1, hb1⟩)
  have hn1 : n1 = 8 := by
    have := ho1.1
    rw [bv_length, List.nil_append, dig_length] at this
    omega
  subst hn1
  rw [List.nil_append] at ho1
  have HO1 := Lib.hid ho1
  have HB1 := Lib.hid hb1
  clear ho1 hb1 HP
  go_loopg [3, 5, 11] n (fun kx v3 _ v11 wr => ∃ (j : Nat) (A3 : Option Addr) (c3 m : Nat), v3 = .slice A3 (8 + m) c3 ∧ v11 = .int .i64 (j : Int) ∧ j ≤ n ∧ n - j ≤ kx ∧ m ≤ 1099511627776 ∧
    Aside (m = (chsB (l.take j)).length) ∧ Aside (wr.ownsRow w.heap.size 5 1 (.slice A3 (8 + m) c3) (8 + m) (bv (dig (n : Int) ++ chsB (l.take j)))) ∧ Aside (Below w.heap.size w wr))
  case atStart => exact ⟨0, A1, c1, 0, rfl, rfl, Nat.zero_le _, Nat.le_refl _, by omega, (rfl : Aside _), (by rw [show dig (n : Int) ++ chsB (l.take 0) = dig (n : Int) from List.append_nil _]; exact HO1.out), (HB1.out : Aside _)⟩
  case round =>
    clear HO1 HB1
    obtain ⟨j, A3, c3, m, rfl, rfl, hjn, hkx, hm, HM, HO, HB⟩ := hrel
    by_cases hlt : j < n
    · have hltz : (j : Int) < (n : Int) := by omega
      have hjl : j < l.length := by rw [HN.out]; exact hlt
      obtain ⟨b, o, eA, hbl, e0, e1, e2⟩ := H.out.elem j hjl
      have hxv := HV.out _ (List.getElem_mem hjl)
      have hle := chB_le l j hjl
      have hih := batB_ih l j hjl
      generalize l[j] = x at *
      obtain ⟨xk, xv, xg⟩ := x
      have d0 := (HB.out.cell (p := ⟨b, o + j * 3, none⟩) hbl).trans e0
      have d1 := (HB.out.cell (p := ⟨b, o + j * 3 + 1, none⟩) hbl).trans e1
      have d2 := (HB.out.cell (p := ⟨b, o + j * 3 + 2, none⟩) hbl).trans e2
      simp only at d0 d1 d2 hxv
      have pj : (0 : Int) ≤ (j : Int) := by omega
      clear e0 e1 e2
      subst eA
      have HC' := Lib.hid (changeBytes_any xk xv xg (wr.alloc (.cells #[.string xk, .string xv, .bool xg] 52)) hxv)
      have HIH := Lib.hid hih
      have hbV : Below w.heap.size w (wr.alloc (.cells #[.string xk, .string xv, .bool xg] 52)) := HB.out.alloc HB.out.size _
      have HBV := Lib.hid hbV
      clear hih hbV
      have HLE := Lib.hid hle
      clear hle
      go_wp2_with (first
        | (go_at_call 57; refine HC'.out.mono ?_; rintro e w2 ⟨A4, n4, c4, rfl, ho4, hb4⟩; have hn4 : n4 = (chB ⟨xk, xv, xg⟩).length := (by have := (Hold.of_own ho4).1; omega); have HN4 := Lib.hid hn4; have HO4 := Lib.hid (own_mono ho4 HBV.out.size); have HH4 := Lib.hid (Hold.of_own ho4); have HB4 := Lib.hid (HBV.out.trans (hb4.mono HBV.out.size)); have HO2 := Lib.hid (own_below (HO.out.alloc (.cells #[.string xk, .string xv, .bool xg] 52)) hb4); have hsum : 8 + m + n4 ≤ 140737488355328 := (by have := HLE.out; have := HM.out; omega); clear ho4 hb4 hn4)
        | (at_builtin; (with_reducible refine wpList_append_hold rfl (.tmp 15) (.tmp 17) rfl w.heap.size (.slice A3 (8 + m) c3) (8 + m) (dig (n : Int) ++ chsB (l.take j)) rfl HO2.out A4 n4 c4 (chB ⟨xk, xv, xg⟩) rfl HH4.out hsum HB4.out.size ?_); intro A5 c5 w5 hown5 hgrow5; have HO5 := Lib.hid hown5; have HB5 := Lib.hid (HB4.out.grown hgrow5 HB4.out.size (fun q hq => (HO2.out.lt q hq).1)); clear hown5 hgrow5))
      go_roundg (n - (j + 1))
      case measure => omega
      case rel => exact ⟨j + 1, A5, c5, m + n4, by rw [Nat.add_assoc], by go_num, by omega, Nat.le_refl _, by have := HLE.out; have := HM.out; have := HN4.out; omega, (by rw [HIH.out, List.length_append, HN4.out]; exact congrArg (· + _) HM.out), (by rw [HIH.out, ← Nat.add_assoc, ← List.append_assoc]; exact HO5.out), (HB5.out : Aside _)⟩
    · obtain rfl : j = n := by omega
      have hltz : ¬ (j : Int) < (j : Int) := by omega
      have ht : l.take j = l := List.take_of_length_le (by rw [HN.out]; exact Nat.le_refl _)
      have HT := Lib.hid ht
      clear ht
      go_wp2_with fail
      go_ret
      refine ⟨A3, 8 + m, c3, rfl, ?_, HB.out⟩
      have := HO.out
      rw [HT.out, ← HN.out] at this
      exact this
end Go.Proofs.Ytbfhlleipeipbaa

/- What is proved: the contract of store.changesOf at a batch's bytes: the batch, in new memory. Conditions: those in each statement. -/
namespace Go.Proofs.Ytbfhlleipeipbaa
open Go.RowKit

theorem text_tx {w : World} {g : Nat} {k : ByteArray} {r : List UInt8} (h : Rdr w g (some (txB k.data.toList ++ r))) (hs : k.size + r.length ≤ 281474976710656) :
    Calls Try.prog 72 #[.pointer (some ⟨g, 0, none⟩)] w (Left1 w g (.string k) (some r)) := by
  have := text_any g _ w h
  rw [stText_tx _ _ (by rw [size_toList]; exact hs)] at this
  simpa using this
theorem bool_byte {w : World} {g : Nat} {b : Bool} {r : List UInt8} (h : Rdr w g (some ([if b then 1 else 0] ++ r))) :
    Calls Try.prog 73 #[.pointer (some ⟨g, 0, none⟩)] w (Left1 w g (.bool b) (some r)) := by
  have := bool_any g _ w h
  rw [show [if b then (1 : UInt8) else 0] ++ r = (if b then 1 else 0) :: r from rfl, stBool_byte] at this
  exact this
/-- what the closure answers and leaves -/
def NextPost (w : World) (g : Nat) (c : Cg) (r : List UInt8) (e : Ending) (w' : World) : Prop := e = .returned (.agg (encC (norm c)).toArray) ∧ Rdr w' g (some r) ∧ w.grownBy w' (some g)

theorem Rdr.far {w w' : World} {g b : Nat} {s : St} {cs : Array Value} {t : TypeId} {fr : Nat × Nat} (h : Rdr w g s) (hb : w.heap[b]? = some (.cells cs t fr)) (hcs : ∀ v ∈ cs.toList, ∀ x, v ≠ .int .u8 x) (hne : g ≠ b) (hg : w.grownBy w' (some b)) : Rdr w' g s := by
  obtain ⟨A, n, c, h1, h2, h3⟩ := h
  exact ⟨A, n, c, (hg.block g (Array.getElem?_eq_some_iff.1 h1).1 (fun e => hne (Option.some.inj e))).trans h1, h2.grown hg (h2.apart hb hcs), h3⟩
theorem cg_cs (x y : ByteArray) (z : Bool) : ∀ v ∈ (#[Value.string x, .string y, .bool z] : Array Value).toList, ∀ u, v ≠ .int .u8 u := by
  intro v hv u
  simp at hv
  rcases hv with rfl | rfl | rfl <;> simp
/-- the closure's variables, and the reader -/
structure NxI (w : World) (bx g : Nat) (x y : ByteArray) (z : Bool) (s : St) (W : World) : Prop where
  res : W.heap[w.heap.size]? = some (.cells #[.string ⟨#[]⟩, .string ⟨#[]⟩, .bool false] 52 (0, 0))
  loc : W.heap[w.heap.size + 1]? = some (.cells #[.string x, .string y, .bool z] 52 (0, 0))
  box : W.cell? ⟨bx, 0, none⟩ = some (.pointer (some ⟨g, 0, none⟩))
  rd : Rdr W g s
  gr : w.grownBy W (some g)
  lt : g < w.heap.size ∧ bx < w.heap.size ∧ bx ≠ g
theorem grown_set {w W : World} {q : Option Nat} {b i : Nat} (h : w.grownBy W q) (hb : w.heap.size ≤ b) (u : Value) : w.grownBy (W.setCell ⟨b, i, none⟩ u) q :=
  ⟨h.os, h.tape, h.output, by simpa [World.setCell] using h.size, fun k hk hne => (Below.heap_setCell _ _ _ _ (by show k ≠ b; omega)).trans (h.block k hk hne)⟩
section
variable {w W W' : World} {bx g : Nat} {x y : ByteArray} {z : Bool} {s s' : St}
theorem NxI.facts (h : NxI w bx g x y z s W) : W.cell? ⟨w.heap.size + 1, 0, none⟩ = some (.string x) ∧ W.cell? ⟨w.heap.size + 1, 1, none⟩ = some (.string y) ∧ W.cell? ⟨w.heap.size + 1, 2, none⟩ = some (.bool z) ∧ (∀ j, W.frozen? ⟨w.heap.size + 1, j, none⟩ = false) ∧
    W.cell? ⟨w.heap.size, 0, none⟩ = some (.string ⟨#[]⟩) ∧ W.cell? ⟨w.heap.size, 1, none⟩ = some (.string ⟨#[]⟩) ∧ W.cell? ⟨w.heap.size, 2, none⟩ = some (.bool false) ∧ (∀ j, W.frozen? ⟨w.heap.size, j, none⟩ = false) := by
  obtain ⟨a, b, c⟩ := box3 h.loc
  obtain ⟨d, e, f⟩ := box3 h.res
  exact ⟨a, b, c, fun j => by simp [World.frozen?, h.loc], d, e, f, fun j => by simp [World.frozen?, h.res]⟩
theorem NxI.called (h : NxI w bx g x y z s W) (hr : Rdr W' g s') (hg : W.grownBy W' (some g)) : NxI w bx g x y z s' W' := by
  obtain ⟨l1, l2, l3⟩ := h.lt
  have k : ∀ b, b < W.heap.size → b ≠ g → W'.heap[b]? = W.heap[b]? := fun b hb hne => hg.block b hb (fun e => hne (Option.some.inj e))
  exact ⟨(k _ (Array.getElem?_eq_some_iff.1 h.res).1 (by omega)).trans h.res, (k _ (Array.getElem?_eq_some_iff.1 h.loc).1 (by omega)).trans h.loc, hg.cell h.box (fun e => l3 (Option.some.inj e)), hr, grown_trans h.gr hg, h.lt⟩
theorem NxI.set (h : NxI w bx g x y z s W) (i : Nat) (u : Value) {x' y' : ByteArray} {z' : Bool} (e : (#[Value.string x, .string y, .bool z] : Array Value).setIfInBounds i u = #[.string x', .string y', .bool z']) : NxI w bx g x' y' z' s (W.setCell ⟨w.heap.size + 1, i, none⟩ u) := by
  obtain ⟨l1, l2, l3⟩ := h.lt
  have hg : W.grownBy (W.setCell ⟨w.heap.size + 1, i, none⟩ u) (some (w.heap.size + 1)) := set_grown _ _ _ _
  refine ⟨(hg.block _ (Array.getElem?_eq_some_iff.1 h.res).1 (fun e => by have := Option.some.inj e; omega)).trans h.res, ?_, hg.cell h.box (fun e => by have := Option.some.inj e; simp at this; omega), h.rd.far h.loc (cg_cs _ _ _) (by omega) hg, grown_set h.gr (by omega) u, h.lt⟩
  rw [heap_setCell_at h.loc, e]
end
theorem NxI.done {w W : World} {bx g : Nat} {x y : ByteArray} {z : Bool} {s : St} (h : NxI w bx g x y z s W) (W' : World) (hW : W' = ((W.setCell ⟨w.heap.size, 0, none⟩ (.string x)).setCell ⟨w.heap.size, 1, none⟩ (.string y)).setCell ⟨w.heap.size, 2, none⟩ (.bool z)) :
    (W'.cell? ⟨w.heap.size, 0, none⟩ = some (.string x) ∧ W'.cell? ⟨w.heap.size, 1, none⟩ = some (.string y) ∧ W'.cell? ⟨w.heap.size, 2, none⟩ = some (.bool z)) ∧ Rdr W' g s ∧ w.grownBy W' (some g) := by
  obtain ⟨l1, l2, l3⟩ := h.lt
  have h0 := heap_setCell_at h.res 0 (.string x)
  have h1 := heap_setCell_at h0 1 (.string y)
  have h2 := heap_setCell_at h1 2 (.bool z)
  subst hW
  refine ⟨box3 h2, ?_, grown_set (grown_set (grown_set h.gr (Nat.le_refl _) _) (Nat.le_refl _) _) (Nat.le_refl _) _⟩
  have r0 := h.rd.far h.res (cg_cs _ _ _) (by omega) (set_grown W w.heap.size 0 (.string x))
  have r1 := r0.far h0 (cg_cs x _ _) (by omega) (set_grown _ w.heap.size 1 (.string y))
  exact r1.far h1 (cg_cs x y _) (by omega) (set_grown _ w.heap.size 2 (.bool z))

set_option maxRecDepth 100000 in
set_option maxHeartbeats 1000000 in
theorem next_any (bx g : Nat) (k v : ByteArray) (gn : Bool) (r : List UInt8) (w : World) (hbx : w.heap[bx]? = some (.cells #[.pointer (some ⟨g, 0, none⟩)] 125 (0, 0))) (hr : Rdr w g (some (chB ⟨k, v, gn⟩ ++ r))) (hs : k.size + v.size + r.length ≤ 1099511627776) :
    Calls Try.prog 71 #[.pointer (some ⟨bx, 0, none⟩)] w (NextPost w g ⟨k, v, gn⟩ r) := by
  have hglt : g < w.heap.size := by obtain ⟨A, n, c, hg, _⟩ := hr; exact (Array.getElem?_eq_some_iff.1 hg).1
  have hbg : bx ≠ g := by obtain ⟨A, n, c, hg, _⟩ := hr; exact tag_ne hbx hg (by decide)
  have hblt : bx < w.heap.size := (Array.getElem?_eq_some_iff.1 hbx).1
  have cb0 : w.cell? ⟨bx, 0, none⟩ = some (.pointer (some ⟨g, 0, none⟩)) := by rw [cell_of_row w bx 0 _ _ _ hbx]; rfl
  have hvl : v.data.toList.length = v.size := size_toList v
  have hi : NxI w bx g ⟨#[]⟩ ⟨#[]⟩ false (some (txB k.data.toList ++ ([if gn then 1 else 0] ++ ((if gn then [] else txB v.data.toList) ++ r)))) ((w.alloc (.cells #[.string ⟨#[]⟩, .string ⟨#[]⟩, .bool false] 52)).alloc (.cells #[.string ⟨#[]⟩, .string ⟨#[]⟩, .bool false] 52)) := by
    have hb : Below w.heap.size w ((w.alloc (.cells #[.string ⟨#[]⟩, .string ⟨#[]⟩, .bool false] 52)).alloc (.cells #[.string ⟨#[]⟩, .string ⟨#[]⟩, .bool false] 52)) := ((Below.refl _ _).alloc (Nat.le_refl _) _).alloc (by simp) _
    refine ⟨?_, heap_at _ _ _ (by simp), hb.cell (p := ⟨bx, 0, none⟩) hblt |>.trans cb0, ?_, ⟨hb.os, hb.tape, hb.output, hb.size, fun b h _ => hb.block b h⟩, hglt, hblt, hbg⟩
    · rw [Below.heap_alloc _ _ _ (by simp)]; exact heap_alloc_new w _
    · have := hr.below hb
      have e : chB ⟨k, v, gn⟩ ++ r = txB k.data.toList ++ ([if gn then 1 else 0] ++ ((if gn then [] else txB v.data.toList) ++ r)) := by
        unfold chB; rw [List.append_assoc, List.append_assoc]; rfl
      rwa [e] at this
  have HI := Lib.hid hi
  have HVL := Lib.hid hvl
  clear hr hbx hi hvl cb0
  go_enter Try.func71, Try.ntmps71
  have cb0 := HI.out.box
  have hz2 : (w.alloc (.cells #[.string ⟨#[]⟩, .string ⟨#[]⟩, .bool false] 52)).heap.size = w.heap.size + 1 := by simp
  go_wp2_with fail
  generalize (w.alloc (.cells #[.string ⟨#[]⟩, .string ⟨#[]⟩, .bool false] 52)).alloc (.cells #[.string ⟨#[]⟩, .string ⟨#[]⟩, .bool false] 52) = W at *
  have ht1 : k.size + ([if gn then (1 : UInt8) else 0] ++ ((if gn then [] else txB v.data.toList) ++ r)).length ≤ 281474976710656 := by
    have := HVL.out
    cases gn <;> simp [txB_length] <;> omega
  refine (text_tx HI.out.rd ht1).mono ?_
  rintro e W1 ⟨rfl, hr1, hg1⟩
  have hi1 := HI.out.called hr1 hg1
  obtain ⟨f1, f2, f3, f4, _, _, _, _⟩ := hi1.facts
  have f40 := f4 0
  have HI2 := Lib.hid (hi1.set 0 (.string k) (x' := k) (y' := ⟨#[]⟩) (z' := false) rfl)
  clear hr1 hg1 hi1 f4 HI cb0 ht1
  have cb1 := HI2.out.box
  go_wp2_with fail
  generalize W1.setCell ⟨w.heap.size + 1, 0, none⟩ (.string k) = W2 at *
  clear f1 f2 f3 f40
  refine (bool_byte HI2.out.rd).mono ?_
  rintro e W3 ⟨rfl, hr3, hg3⟩
  have hi3 := HI2.out.called hr3 hg3
  obtain ⟨f1, f2, f3, f4, _, _, _, _⟩ := hi3.facts
  have f42 := f4 2
  have HI4 := Lib.hid (hi3.set 2 (.bool gn) (x' := k) (y' := ⟨#[]⟩) (z' := gn) rfl)
  clear hr3 hg3 hi3 f4 HI2 cb1
  obtain ⟨c1, c2, c3, c4, d1, d2, d3, d4⟩ := HI4.out.facts
  have cb2 := HI4.out.box
  have d40 := d4 0
  have d41 := d4 1
  have d42 := d4 2
  clear d4
  cases gn with
  | true =>
    obtain ⟨⟨q0, q1, q2⟩, hq, hgq⟩ := HI4.out.done _ rfl
    have HQ := Lib.hid hq
    have HGQ := Lib.hid hgq
    clear hq hgq
    have HQ0 := Lib.hid q0
    have HQ1 := Lib.hid q1
    have HQ2 := Lib.hid q2
    clear q0 q1 q2
    go_wp2_with fail
    exact bodyPost_ret (v := .agg #[.string k, .string ⟨#[]⟩, .bool true]) (by simp [results, Try.results71, go_sem, HQ0.out, HQ1.out, HQ2.out]) rfl ⟨rfl, HQ.out, HGQ.out⟩
  | false =>
    go_wp2_with fail
    generalize W3.setCell ⟨w.heap.size + 1, 2, none⟩ (.bool false) = W4 at *
    have ht1 : v.size + r.length ≤ 281474976710656 := by omega
    refine (text_tx HI4.out.rd ht1).mono ?_
    rintro e W5 ⟨rfl, hr5, hg5⟩
    have hi5 := HI4.out.called hr5 hg5
    clear f1 f2 f3 f42 c1 c2 c3 c4 d1 d2 d3 cb2 d40 d41 d42
    obtain ⟨f1, f2, f3, f4, _, _, _, _⟩ := hi5.facts
    have f41 := f4 1
    have HI6 := Lib.hid (hi5.set 1 (.string v) (x' := k) (y' := v) (z' := false) rfl)
    clear hr5 hg5 hi5 f4 HI4
    obtain ⟨c1, c2, c3, _, d1, d2, d3, d4⟩ := HI6.out.facts
    have d40 := d4 0
    have d41 := d4 1
    have d42 := d4 2
    clear d4
    obtain ⟨⟨q0, q1, q2⟩, hq, hgq⟩ := HI6.out.done _ rfl
    have HQ := Lib.hid hq
    have HGQ := Lib.hid hgq
    clear hq hgq
    have HQ0 := Lib.hid q0
    have HQ1 := Lib.hid q1
    have HQ2 := Lib.hid q2
    clear q0 q1 q2
    go_wp2_with fail
    exact bodyPost_ret (v := .agg #[.string k, .string v, .bool false]) (by simp [results, Try.results71, go_sem, HQ0.out, HQ1.out, HQ2.out]) rfl ⟨rfl, HQ.out, HGQ.out⟩
end Go.Proofs.Ytbfhlleipeipbaa

/- What is proved: the contract of store.changesOf at a batch's bytes: the batch, in new memory. Conditions: those in each statement. -/
namespace Go.Proofs.Ytbfhlleipeipbaa
open Go.RowKit

def zc : Cg := ⟨⟨#[]⟩, ⟨#[]⟩, false⟩
/-- the row as it is filled -/
def curL (l : List Cg) (j : Nat) : List Cg := (l.take j).map norm ++ List.replicate (l.length - j) zc
theorem curL_length (l : List Cg) (j : Nat) (h : j ≤ l.length) : (curL l j).length = l.length := by
  unfold curL; rw [List.length_append, List.length_map, List.length_take, List.length_replicate]; omega
theorem curL_succ (l : List Cg) (j : Nat) (h : j < l.length) : curL l (j + 1) = (curL l j).set j (norm l[j]) := by
  unfold curL
  rw [List.take_succ_eq_append_getElem h, List.map_append, show l.length - j = (l.length - (j + 1)) + 1 by omega, List.replicate_succ, List.set_append_right _ _ (by rw [List.length_map, List.length_take]; omega)]
  rw [List.length_map, List.length_take, show j - min j l.length = 0 by omega, List.set_cons_zero]
  simp
theorem curL_end (l : List Cg) : curL l l.length = l.map norm := by unfold curL; simp
theorem chV_set (L : List Cg) (j : Nat) (h : j < L.length) (x : Cg) : chV (L.set j x) = splice (chV L) (j * 3) (encC x) := by
  unfold chV
  rw [List.map_set]
  exact flat_set 3 _ (chV_each L) j (by simpa using h) _ (encC_len x)
theorem chV_rep (n : Nat) : chV (List.replicate n zc) = (List.replicate n (encC zc)).flatten := by unfold chV; rw [List.map_replicate]
theorem made_ch (n : Nat) : (madeCells (Value.agg #[.string ⟨#[]⟩, .string ⟨#[]⟩, .bool false]).cells (n * 3)).toList = chV (List.replicate n zc) := by
  have hz : (Value.agg #[.string ⟨#[]⟩, .string ⟨#[]⟩, .bool false]).cells = #[.string ⟨#[]⟩, .string ⟨#[]⟩, .bool false] := rfl
  rw [hz]
  unfold madeCells
  apply List.ext_getElem?
  intro i
  simp only [Array.toList_map, Array.toList_range, List.getElem?_map]
  by_cases hi : i < n * 3
  · rw [List.getElem?_range hi, Option.map_some]
    have h1 := chV_get (List.replicate n zc) (i / 3) (i % 3) (by rw [List.length_replicate]; omega) (by omega)
    rw [show i / 3 * 3 + i % 3 = i by omega, List.getElem_replicate] at h1
    rw [h1]
    have h3 : i % 3 = 0 ∨ i % 3 = 1 ∨ i % 3 = 2 := by omega
    rcases h3 with h | h | h <;> simp [h, encC, zc]
  · rw [List.getElem?_eq_none (by simpa using hi), List.getElem?_eq_none (by rw [chV_length, List.length_replicate]; omega)]
    rfl
theorem own_base {w : World} {e : TypeId} {z q n cap B : Nat} {xs : List Value} (h : w.ownsRow 0 e z (.slice (some ⟨q, 0, none⟩) n cap) n xs) (hB : B ≤ q) : w.ownsRow B e z (.slice (some ⟨q, 0, none⟩) n cap) n xs := by
  refine ⟨h.1, ?_⟩
  rcases h.2 with ⟨h0, _⟩ | ⟨g, cp, cur, hv, _, r⟩
  · cases h0
  · refine .inr ⟨g, cp, cur, hv, ?_, r⟩
    cases hv
    exact hB
theorem chV_cs (L : List Cg) : ∀ v ∈ (chV L).toArray.toList, ∀ u, v ≠ .int .u8 u := fun v hv u => by
  rw [List.toList_toArray] at hv
  obtain ⟨x, hx, hv⟩ := List.mem_flatten.1 hv
  obtain ⟨c, _, rfl⟩ := List.mem_map.1 hx
  simp [encC] at hv
  rcases hv with rfl | rfl | rfl <;> simp
theorem own_whole {w : World} {q n : Nat} {L : List Cg} (h : w.ownsRow 0 52 3 (.slice (some ⟨q, 0, none⟩) n n) n (chV L)) : w.heap[q]? = some (.cells (chV L).toArray 52 (0, 0)) := by
  obtain ⟨cur, h1, _, _, h4, h5⟩ := own_block h
  rw [h1, ← h5, List.take_of_length_le (by rw [Array.length_toList]; omega)]
/-- changesOf's variables behind j rounds -/
structure ChI (w : World) (bx g q : Nat) (l : List Cg) (j : Nat) (W : World) : Prop where
  box : W.heap[bx]? = some (.cells #[.pointer (some ⟨g, 0, none⟩)] 125 (0, 0))
  rd : Rdr W g (some (chsB (l.drop j)))
  row : W.ownsRow 0 52 3 (.slice (some ⟨q, 0, none⟩) l.length l.length) l.length (chV (curL l j))
  bel : Below w.heap.size w W
  lo : w.heap.size ≤ bx ∧ w.heap.size ≤ g ∧ w.heap.size ≤ q
theorem ChI.step {w W W1 : World} {bx g q : Nat} {l : List Cg} {j : Nat} (h : ChI w bx g q l j W) (hj : j < l.length) (hr : Rdr W1 g (some (chsB (l.drop (j + 1))))) (hg : W.grownBy W1 (some g)) :
    W1.there q (j * 3) 3 ∧ ChI w bx g q l (j + 1) (W1.setCells q (j * 3) (encC (norm l[j]))) := by
  obtain ⟨l1, l2, l3⟩ := h.lo
  obtain ⟨A, n, c, hgb, _, _⟩ := h.rd
  have hq := own_whole h.row
  have n1 : bx ≠ g := tag_ne h.box hgb (by decide)
  have n2 : q ≠ g := tag_ne hq hgb (by decide)
  have n3 : q ≠ bx := tag_ne hq h.box (by decide)
  have k : ∀ b, b < W.heap.size → b ≠ g → W1.heap[b]? = W.heap[b]? := fun b hb hne => hg.block b hb (fun e => hne (Option.some.inj e))
  have hbox1 : W1.heap[bx]? = _ := (k bx (Array.getElem?_eq_some_iff.1 h.box).1 n1).trans h.box
  have hrow1 : W1.ownsRow 0 52 3 (.slice (some ⟨q, 0, none⟩) l.length l.length) l.length (chV (curL l j)) := own_keep h.row (fun b hb => by
    obtain rfl : q = b := Option.some.inj hb
    exact k q (Array.getElem?_eq_some_iff.1 hq).1 n2)
  have hq1 := own_whole hrow1
  have hle : j * 3 + 3 ≤ l.length * 3 := by omega
  refine ⟨own_there hrow1 _ _ hle, ?_⟩
  have hgr : W1.grownBy (W1.setCells q (j * 3) (encC (norm l[j]))) (some q) := by
    obtain ⟨k1, k2, k3, k4⟩ := setCells_keeps q (encC (norm l[j])) (j * 3) W1
    exact ⟨k1, k2, k3, Nat.le_of_eq k4.symm, fun b _ hne => heap_setCells_other q b (fun e => hne (by rw [e])) _ _ _⟩
  refine ⟨(heap_setCells_other q bx (Ne.symm n3) _ _ _).trans hbox1, hr.far hq1 (chV_cs _) (Ne.symm n2) hgr, ?_, ?_, l1, l2, l3⟩
  · rw [curL_succ l j hj, chV_set _ _ (by rw [curL_length l j (by omega)]; exact hj)]
    exact own_setCells hrow1 _ _ (by rw [encC_len]; exact hle)
  · have b1 : Below w.heap.size w W1 := h.bel.grown hg h.bel.size (fun b hb => by obtain rfl := Option.some.inj hb; exact l2)
    exact b1.grown hgr b1.size (fun b hb => by obtain rfl := Option.some.inj hb; exact l3)
theorem chsB_drop (l : List Cg) (j : Nat) (h : j < l.length) : chsB (l.drop j) = chB l[j] ++ chsB (l.drop (j + 1)) := by
  rw [List.drop_eq_getElem_cons h]; rfl
theorem chsB_drop_le (l : List Cg) (j : Nat) : (chsB (l.drop j)).length ≤ (chsB l).length := by
  conv => rhs; rw [← List.take_append_drop j l, chsB_append, List.length_append]
  omega
/-- what changesOf answers of a batch -/
def GotC (w : World) (l : List Cg) (e : Ending) (w' : World) : Prop :=
  ∃ q, e = .returned (.tuple #[.slice (some ⟨q, 0, none⟩) l.length l.length, .bool true]) ∧ w'.ownsRow w.heap.size 52 3 (.slice (some ⟨q, 0, none⟩) l.length l.length) l.length (chV (l.map norm)) ∧ Below w.heap.size w w'

set_option maxRecDepth 100000 in
set_option maxHeartbeats 1000000 in
theorem changesOf_bat (A : Option Addr) (n c : Nat) (l : List Cg) (w : World) (h : Hold w A n c (batB l)) (hs : n ≤ 549755813888) (hvs : ∀ x ∈ l, x.key.size + x.val.size ≤ 274877906944) :
    Calls Try.prog 47 #[.slice A n c] w (GotC w l) := by
  obtain ⟨i0, hi0, hz0, hz1, hz2⟩ := info52'
  have hn := h.1
  rw [batB_length] at hn
  have hlen := chsB_len l
  have HR := Lib.hid (oread_any A n c (batB l) w h (by omega))
  have hcd : stCount 9 (some (batB l)) = ((l.length : Int), some (chsB l)) := stCount_dig l.length 9 (chsB l) (by omega) (by omega) (by omega)
  have HCD := Lib.hid hcd
  have HV := Lib.hid hvs
  clear h hcd hvs
  have hll : l.length ≤ 549755813888 := by omega
  have HM := Lib.hid (made_ch l.length)
  have HL := Lib.hid hn
  clear hn
  go_enter Try.func47, Try.ntmps47
  go_wp2_with (go_at_call 65; refine HR.out.mono ?_; rintro e w1 ⟨g, rfl, hr1, _, hb1, hg1, hg2⟩; have HR1 := Lib.hid hr1; have HB1 := Lib.hid hb1; clear hr1 hb1)
  have hbB : Below w1.heap.size w1 (w1.alloc (.cells #[.pointer (some ⟨g, 0, none⟩)] 125)) := (Below.refl _ _).alloc (Nat.le_refl _) _
  have hbx : (w1.alloc (.cells #[.pointer (some ⟨g, 0, none⟩)] 125)).heap[w1.heap.size]? = some (.cells #[.pointer (some ⟨g, 0, none⟩)] 125 (0, 0)) := heap_alloc_new w1 _
  have hcn := rcount_any g 9 (some (batB l)) _ (HR1.out.below hbB) (by omega) (by omega)
  rw [HCD.out] at hcn
  have HCN := Lib.hid hcn
  have HBX := Lib.hid hbx
  have HBB := Lib.hid (HB1.out.trans (hbB.mono HB1.out.size))
  have hszB : (w1.alloc (.cells #[.pointer (some ⟨g, 0, none⟩)] 125)).heap.size = w1.heap.size + 1 := by simp
  have HSZ := Lib.hid hszB
  have hlo := HB1.out.size
  clear hcn hbx hbB hszB HR HR1
  generalize hbxn : w1.heap.size = bx at *
  generalize w1.alloc (.cells #[.pointer (some ⟨g, 0, none⟩)] 125) = W at *
  clear hbxn
  refine HCN.out.mono ?_
  rintro e w2 ⟨rfl, hr2, hgr2⟩
  have hbxg : bx ≠ g := by omega
  have hbx2 : w2.heap[bx]? = some (.cells #[.pointer (some ⟨g, 0, none⟩)] 125 (0, 0)) := (hgr2.block bx (by rw [HSZ.out]; omega) (fun e => hbxg (Option.some.inj e))).trans HBX.out
  have hb2 : Below w.heap.size w w2 := HBB.out.grown hgr2 HBB.out.size (fun b hb => by obtain rfl := Option.some.inj hb; exact hg1)
  have HR2 := Lib.hid hr2
  have HX2 := Lib.hid hbx2
  have HB2 := Lib.hid hb2
  clear hr2 hgr2 hbx2 hb2 HBX HBB HSZ HCN HCD
  simp only
  go_wp2_with (at_make; refine wpList_make_full w2 rfl (.tmp 12) (.tmp 12) 36 rfl 0 52 i0 _ 3 Try.underlying36 hi0 hz0 hz1 .i64 .i64 (l.length : Int) (l.length : Int) l.length rfl rfl rfl rfl (by rw [hz2]; omega) (by unfold maxLen; omega) (by omega) ?_; intro w3 hown3 hgrow3; rw [HM.out] at hown3; have HO3 := Lib.hid hown3; have HG3 := Lib.hid hgrow3; clear hown3 hgrow3)
  have hb3 : Below w2.heap.size w2 w3 := (Below.refl _ _).grown HG3.out (Nat.le_refl _) (fun _ h => by cases h)
  have hi : ChI w bx g w2.heap.size l 0 w3 := ⟨(hb3.block bx (Array.getElem?_eq_some_iff.1 HX2.out).1).trans HX2.out, HR2.out.below hb3, (by unfold curL; simpa using HO3.out), HB2.out.trans (hb3.mono HB2.out.size), by omega, hg1, HB2.out.size⟩
  have HI := Lib.hid hi
  clear hb3 hi HR2 HX2 HB2 HO3 HG3 HB1
  generalize w2.heap.size = q at *
  go_loopg [7, 16] l.length (fun kx _ v16 wr => ∃ (j : Nat), v16 = .int .i64 (j : Int) ∧ j ≤ l.length ∧ l.length - j ≤ kx ∧ Aside (ChI w bx g q l j wr))
  case atStart => exact ⟨0, rfl, Nat.zero_le _, Nat.le_refl _, (HI.out : Aside _)⟩
  case round =>
    clear HI
    obtain ⟨j, rfl, hjn, hkx, HI⟩ := hrel
    by_cases hlt : j < l.length
    · have hltz : (j : Int) < (l.length : Int) := by omega
      have pj : (0 : Int) ≤ (j : Int) := by omega
      have hd := chsB_drop l j hlt
      have hdl := chsB_drop_le l (j + 1)
      have hxv := HV.out _ (List.getElem_mem hlt)
      have hst := fun W1 h1 h2 => HI.out.step (W1 := W1) hlt h1 h2
      have hrd := HI.out.rd
      rw [hd] at hrd
      generalize l[j] = x at *
      obtain ⟨xk, xv, xg⟩ := x
      have HNX := Lib.hid (next_any bx g xk xv xg (chsB (l.drop (j + 1))) wr HI.out.box hrd (by simp only at hxv; have := HL.out; omega))
      have HST := Lib.hid hst
      have HSZ := Lib.hid (show (Try.prog.info? 52).map (·.size) = some (encC (norm ⟨xk, xv, xg⟩)).toArray.size by rw [hi0]; simp [hz1, encC])
      have H1C := Lib.hid (all_oneCell_toArray (encC_one (norm ⟨xk, xv, xg⟩)))
      clear hd hst hrd hxv
      go_wp2_with (first
        | (refine HNX.out.mono ?_; rintro e w4 ⟨rfl, hr4, hg4⟩; obtain ⟨hth, hnx⟩ := HST.out w4 hr4 hg4; have hth' : w4.there q (j * 3) (encC (norm ⟨xk, xv, xg⟩)).toArray.size := hth; have HTH := Lib.hid hth'; have HNI := Lib.hid hnx; clear hth hth' hnx hr4 hg4 HNX HST)
        | ((with_reducible refine wpList_store_mid rfl 52 (.tmp 23) (.tmp 22) rfl q (j * 3) (encC (norm ⟨xk, xv, xg⟩)).toArray rfl rfl HTH.out HSZ.out H1C.out ?_); rw [List.toList_toArray]; generalize w4.setCells q (j * 3) (encC (norm ⟨xk, xv, xg⟩)) = w5 at *))
      go_roundg (l.length - (j + 1))
      case measure => omega
      case rel => exact ⟨j + 1, by go_num, by omega, Nat.le_refl _, (HNI.out : Aside _)⟩
    · obtain rfl : j = l.length := by omega
      have hltz : ¬ (l.length : Int) < (l.length : Int) := by omega
      have hrd := HI.out.rd
      rw [List.drop_of_length_le (Nat.le_refl _)] at hrd
      have HD := Lib.hid (done_any g (some []) wr hrd)
      have hrow := HI.out.row
      rw [curL_end] at hrow
      have HRW := Lib.hid (own_base (B := w.heap.size) hrow HI.out.lo.2.2)
      have cb := cell_of_row wr bx 0 _ _ _ HI.out.box
      simp at cb
      clear hrd hrow
      go_wp2_with (go_at_call 75; refine HD.out.mono ?_; rintro e w6 ⟨rfl, rfl⟩)
      go_ret2
      exact ⟨q, rfl, HRW.out, HI.out.bel⟩
end Go.Proofs.Ytbfhlleipeipbaa

/- What is proved: the contracts of cell.readHalf, cell.told and cell.sector: four numbers, told twice. Conditions: those in each statement. -/
namespace Go.Proofs.Ytbfhlleipeipbaa
open Go.RowKit

/-- A half: the turn, and three numbers. -/
structure H4 where
  t : Int
  a : Int
  e : Int
  c : Int
instance : DecidableEq H4 := fun x y => if h : x.t = y.t ∧ x.a = y.a ∧ x.e = y.e ∧ x.c = y.c then .isTrue (by cases x; cases y; simp_all) else .isFalse (fun e => h (by subst e; exact ⟨rfl, rfl, rfl, rfl⟩))
def H4.val (h : H4) : Array Value := #[.int .i64 h.t, .int .i64 h.a, .int .i64 h.e, .int .i64 h.c]
def H4.zero : H4 := ⟨0, 0, 0, 0⟩
def rdH (l : List UInt8) : H4 := ⟨rd (l.take 8), rd ((l.drop 8).take 8), rd ((l.drop 16).take 8), rd ((l.drop 24).take 8)⟩
def digH (h : H4) : List UInt8 := dig h.t ++ (dig h.a ++ (dig h.e ++ dig h.c))
def secB (h : H4) : List UInt8 := digH h ++ digH h
def toldOf (l : List UInt8) : H4 := if rdH l = rdH (l.drop 32) then rdH l else H4.zero
def H4.In (h : H4) : Prop := (-9223372036854775808 ≤ h.t ∧ h.t ≤ 9223372036854775807) ∧ (-9223372036854775808 ≤ h.a ∧ h.a ≤ 9223372036854775807) ∧ (-9223372036854775808 ≤ h.e ∧ h.e ≤ 9223372036854775807) ∧ (-9223372036854775808 ≤ h.c ∧ h.c ≤ 9223372036854775807)
theorem rdH_in (l : List UInt8) : (rdH l).In := ⟨rd_bounds _, rd_bounds _, rd_bounds _, rd_bounds _⟩
theorem digH_length (h : H4) : (digH h).length = 32 := by unfold digH; simp [dig_length]
theorem secB_length (h : H4) : (secB h).length = 64 := by unfold secB; rw [List.length_append, digH_length]
theorem rdH_dig (h : H4) (r : List UInt8) (hi : h.In) : rdH (digH h ++ r) = h := by
  obtain ⟨h1, h2, h3, h4⟩ := hi
  unfold rdH digH
  have t : ∀ (x : Int) (m : List UInt8), (dig x ++ m).take 8 = dig x := fun x m => List.take_left' (dig_length x)
  have d : ∀ (x : Int) (m : List UInt8), (dig x ++ m).drop 8 = m := fun x m => List.drop_left' (dig_length x)
  simp only [List.append_assoc]
  rw [t, show (16 : Nat) = 8 + 8 from rfl, show (24 : Nat) = 8 + (8 + 8) from rfl, ← List.drop_drop, ← List.drop_drop, ← List.drop_drop, d, d, d, t, t, t, rd_dig _ h1.1 h1.2, rd_dig _ h2.1 h2.2, rd_dig _ h3.1 h3.2, rd_dig _ h4.1 h4.2]
theorem toldOf_sec (h : H4) (hi : h.In) : toldOf (secB h) = h := by
  have e1 : rdH (secB h) = h := rdH_dig h (digH h) hi
  have e2 : rdH ((secB h).drop 32) = h := by
    unfold secB
    rw [List.drop_left' (digH_length h)]
    have := rdH_dig h [] hi
    rwa [List.append_nil] at this
  unfold toldOf
  rw [e1, e2, if_pos rfl]

/-! ### readHalf -/
/-- what has been read behind j rounds -/
def fillH (h : H4) : Nat → H4
  | 0 => H4.zero
  | 1 => ⟨h.t, 0, 0, 0⟩
  | 2 => ⟨h.t, h.a, 0, 0⟩
  | 3 => ⟨h.t, h.a, h.e, 0⟩
  | _ => h
theorem box4 {w : World} {g : Nat} {x y z u : Value} {t : TypeId} (h : w.heap[g]? = some (.cells #[x, y, z, u] t (0, 0))) : w.cell? ⟨g, 0, none⟩ = some x ∧ w.cell? ⟨g, 1, none⟩ = some y ∧ w.cell? ⟨g, 2, none⟩ = some z ∧ w.cell? ⟨g, 3, none⟩ = some u ∧ ∀ j, w.frozen? ⟨g, j, none⟩ = false := by
  refine ⟨?_, ?_, ?_, ?_, fun j => by simp [World.frozen?, h]⟩
  · rw [cell_of_row w g 0 _ t (0, 0) h]; rfl
  · rw [cell_of_row w g 1 _ t (0, 0) h]; rfl
  · rw [cell_of_row w g 2 _ t (0, 0) h]; rfl
  · rw [cell_of_row w g 3 _ t (0, 0) h]; rfl
theorem h4_cs (h : H4) : ∀ v ∈ h.val.toList, ∀ u, v ≠ .int .u8 u := by
  intro v hv u
  simp [H4.val] at hv
  rcases hv with rfl | rfl | rfl | rfl <;> simp
/-- readHalf's variables, and the reader -/
structure RhI (w : World) (g : Nat) (h : H4) (s : St) (W : World) : Prop where
  res : W.heap[w.heap.size]? = some (.cells H4.zero.val 99 (0, 0))
  loc : W.heap[w.heap.size + 1]? = some (.cells h.val 99 (0, 0))
  rd : Rdr W g s
  gr : w.grownBy W (some g)
  lt : g < w.heap.size
section
variable {w W W' : World} {g : Nat} {h h' : H4} {s s' : St}
theorem RhI.called (i : RhI w g h s W) (hr : Rdr W' g s') (hg : W.grownBy W' (some g)) : RhI w g h s' W' := by
  have l1 := i.lt
  have k : ∀ b, b < W.heap.size → b ≠ g → W'.heap[b]? = W.heap[b]? := fun b hb hne => hg.block b hb (fun e => hne (Option.some.inj e))
  exact ⟨(k _ (Array.getElem?_eq_some_iff.1 i.res).1 (by omega)).trans i.res, (k _ (Array.getElem?_eq_some_iff.1 i.loc).1 (by omega)).trans i.loc, hr, grown_trans i.gr hg, i.lt⟩
theorem RhI.set (i : RhI w g h s W) (j : Nat) (u : Value) (e : h.val.setIfInBounds j u = h'.val) : RhI w g h' s (W.setCell ⟨w.heap.size + 1, j, none⟩ u) := by
  have l1 := i.lt
  have hg : W.grownBy (W.setCell ⟨w.heap.size + 1, j, none⟩ u) (some (w.heap.size + 1)) := set_grown _ _ _ _
  refine ⟨(hg.block _ (Array.getElem?_eq_some_iff.1 i.res).1 (fun e => by have := Option.some.inj e; omega)).trans i.res, ?_, i.rd.far i.loc (h4_cs _) (by omega) hg, grown_set i.gr (by omega) u, i.lt⟩
  rw [heap_setCell_at i.loc, e]
theorem RhI.done (i : RhI w g h s W) (W' : World) (hW : W' = (((W.setCell ⟨w.heap.size, 0, none⟩ (.int .i64 h.t)).setCell ⟨w.heap.size, 1, none⟩ (.int .i64 h.a)).setCell ⟨w.heap.size, 2, none⟩ (.int .i64 h.e)).setCell ⟨w.heap.size, 3, none⟩ (.int .i64 h.c)) :
    W'.heap[w.heap.size]? = some (.cells h.val 99 (0, 0)) ∧ Rdr W' g s ∧ w.grownBy W' (some g) := by
  have l1 := i.lt
  have h0 := heap_setCell_at i.res 0 (.int .i64 h.t)
  have h1 := heap_setCell_at h0 1 (.int .i64 h.a)
  have h2 := heap_setCell_at h1 2 (.int .i64 h.e)
  have h3 := heap_setCell_at h2 3 (.int .i64 h.c)
  subst hW
  refine ⟨h3, ?_, grown_set (grown_set (grown_set (grown_set i.gr (Nat.le_refl _) _) (Nat.le_refl _) _) (Nat.le_refl _) _) (Nat.le_refl _) _⟩
  have r0 := i.rd.far i.res (h4_cs _) (by omega) (set_grown W w.heap.size 0 (.int .i64 h.t))
  have r1 := r0.far h0 (h4_cs ⟨h.t, 0, 0, 0⟩) (by omega) (set_grown _ w.heap.size 1 (.int .i64 h.a))
  have r2 := r1.far h1 (h4_cs ⟨h.t, h.a, 0, 0⟩) (by omega) (set_grown _ w.heap.size 2 (.int .i64 h.e))
  exact r2.far h2 (h4_cs ⟨h.t, h.a, h.e, 0⟩) (by omega) (set_grown _ w.heap.size 3 (.int .i64 h.c))
end
def HalfPost (w : World) (g : Nat) (h : H4) (s : St) (e : Ending) (w' : World) : Prop := e = .returned (.agg h.val) ∧ Rdr w' g s ∧ w.grownBy w' (some g)

set_option maxRecDepth 100000 in
set_option maxHeartbeats 1000000 in
theorem readHalf_any (g : Nat) (l : List UInt8) (w : World) (hr : Rdr w g (some l)) (hl : 32 ≤ l.length) :
    Calls Try.prog 66 #[.pointer (some ⟨g, 0, none⟩)] w (HalfPost w g (rdH l) (some (l.drop 32))) := by
  have hglt : g < w.heap.size := by obtain ⟨A, n, c, hg, _⟩ := hr; exact (Array.getElem?_eq_some_iff.1 hg).1
  have hi : RhI w g H4.zero (some l) ((w.alloc (.cells #[.int .i64 0, .int .i64 0, .int .i64 0, .int .i64 0] 99)).alloc (.cells #[.int .i64 0, .int .i64 0, .int .i64 0, .int .i64 0] 99)) := by
    have hb : Below w.heap.size w ((w.alloc (.cells #[.int .i64 0, .int .i64 0, .int .i64 0, .int .i64 0] 99)).alloc (.cells #[.int .i64 0, .int .i64 0, .int .i64 0, .int .i64 0] 99)) := ((Below.refl _ _).alloc (Nat.le_refl _) _).alloc (by simp) _
    refine ⟨?_, heap_at _ _ _ (by simp), hr.below hb, ⟨hb.os, hb.tape, hb.output, hb.size, fun b h _ => hb.block b h⟩, hglt⟩
    rw [Below.heap_alloc _ _ _ (by simp)]; exact heap_alloc_new w _
  have HI := Lib.hid hi
  clear hr hi
  go_enter Try.func66, Try.ntmps66
  have hz2 : (w.alloc (.cells #[.int .i64 0, .int .i64 0, .int .i64 0, .int .i64 0] 99)).heap.size = w.heap.size + 1 := by simp
  go_wp2_with fail
  clear hz2
  generalize (w.alloc (.cells #[.int .i64 0, .int .i64 0, .int .i64 0, .int .i64 0] 99)).alloc (.cells #[.int .i64 0, .int .i64 0, .int .i64 0, .int .i64 0] 99) = W at *
  go_loopg [4, 5] 4 (fun kx _ v5 wr => ∃ (j : Nat), v5 = .int .i64 (j : Int) ∧ j ≤ 4 ∧ 4 - j ≤ kx ∧ Aside (RhI w g (fillH (rdH l) j) (some (l.drop (8 * j))) wr))
  case atStart => exact ⟨0, rfl, by omega, by omega, (HI.out : Aside _)⟩
  case round =>
    clear HI
    obtain ⟨j, rfl, hj4, hkx, HI⟩ := hrel
    by_cases hlt : j < 4
    · have hin := int_yes g _ wr HI.out.rd (by show 8 ≤ (l.drop (8 * j)).length; rw [List.length_drop]; omega)
      have hdr : stTake 8 (some (l.drop (8 * j))) = some (l.drop (8 * (j + 1))) := by
        show some ((l.drop (8 * j)).drop 8) = _
        rw [List.drop_drop, show 8 * j + 8 = 8 * (j + 1) by omega]
      rw [hdr] at hin
      have HIN := Lib.hid hin
      clear hin hdr
      rcases (show j = 0 ∨ j = 1 ∨ j = 2 ∨ j = 3 by omega) with rfl | rfl | rfl | rfl
      · go_wp2_with (go_at_call 87; refine HIN.out.mono ?_; rintro e w4 ⟨rfl, hr4, hg4⟩; have hc := HI.out.called hr4 hg4; obtain ⟨f0, f1, f2, f3, ff⟩ := box4 hc.loc; have ff0 := ff 0; have HC := Lib.hid (RhI.set (h' := fillH (rdH l) 1) hc 0 (.int .i64 (rd ((l.drop (8 * 0)).take 8))) rfl); clear hc ff hr4 hg4)
        go_roundg (4 - 1)
        case measure => omega
        case rel => exact ⟨1, rfl, by omega, Nat.le_refl _, (HC.out : Aside _)⟩
      · go_wp2_with (go_at_call 87; refine HIN.out.mono ?_; rintro e w4 ⟨rfl, hr4, hg4⟩; have hc := HI.out.called hr4 hg4; obtain ⟨f0, f1, f2, f3, ff⟩ := box4 hc.loc; have ff1 := ff 1; have HC := Lib.hid (RhI.set (h' := fillH (rdH l) 2) hc 1 (.int .i64 (rd ((l.drop (8 * 1)).take 8))) rfl); clear hc ff hr4 hg4)
        go_roundg (4 - 2)
        case measure => omega
        case rel => exact ⟨2, rfl, by omega, Nat.le_refl _, (HC.out : Aside _)⟩
      · go_wp2_with (go_at_call 87; refine HIN.out.mono ?_; rintro e w4 ⟨rfl, hr4, hg4⟩; have hc := HI.out.called hr4 hg4; obtain ⟨f0, f1, f2, f3, ff⟩ := box4 hc.loc; have ff2 := ff 2; have HC := Lib.hid (RhI.set (h' := fillH (rdH l) 3) hc 2 (.int .i64 (rd ((l.drop (8 * 2)).take 8))) rfl); clear hc ff hr4 hg4)
        go_roundg (4 - 3)
        case measure => omega
        case rel => exact ⟨3, rfl, by omega, Nat.le_refl _, (HC.out : Aside _)⟩
      · go_wp2_with (go_at_call 87; refine HIN.out.mono ?_; rintro e w4 ⟨rfl, hr4, hg4⟩; have hc := HI.out.called hr4 hg4; obtain ⟨f0, f1, f2, f3, ff⟩ := box4 hc.loc; have ff3 := ff 3; have HC := Lib.hid (RhI.set (h' := fillH (rdH l) 4) hc 3 (.int .i64 (rd ((l.drop (8 * 3)).take 8))) rfl); clear hc ff hr4 hg4)
        go_roundg (4 - 4)
        case measure => omega
        case rel => exact ⟨4, rfl, by omega, Nat.le_refl _, (HC.out : Aside _)⟩
    · obtain rfl : j = 4 := by omega
      obtain ⟨f0, f1, f2, f3, ff⟩ := box4 HI.out.loc
      obtain ⟨r0, r1, r2, r3, rr⟩ := box4 HI.out.res
      have rr0 := rr 0
      have rr1 := rr 1
      have rr2 := rr 2
      have rr3 := rr 3
      obtain ⟨q, hq, hgq⟩ := HI.out.done _ rfl
      obtain ⟨q0, q1, q2, q3, _⟩ := box4 q
      have HQ := Lib.hid hq
      have HGQ := Lib.hid hgq
      have HQ0 := Lib.hid q0
      have HQ1 := Lib.hid q1
      have HQ2 := Lib.hid q2
      have HQ3 := Lib.hid q3
      clear q q0 q1 q2 q3 hq hgq ff rr
      simp only [fillH] at *
      go_wp2_with fail
      exact bodyPost_ret (v := .agg (rdH l).val) (by simp [results, Try.results66, go_sem, HQ0.out, HQ1.out, HQ2.out, HQ3.out, H4.val]) rfl ⟨rfl, HQ.out, HGQ.out⟩
end Go.Proofs.Ytbfhlleipeipbaa

/- What is proved: the contracts of cell.told and cell.sector. Conditions: those in each statement. -/
namespace Go.Proofs.Ytbfhlleipeipbaa
open Go.RowKit

theorem Try.info2 : (Try.prog.info? 2).map (fun i => (i.zero, i.size, i.bytes)) = some (some (.int .i64 0), 1, 8) := by kernel_rfl
theorem half_eq (W : World) (x y : H4) : (Op.equalIn 10000 99 (.agg x.val) (.agg y.val)).run Try.prog W = .ok (decide (x = y)) W := by
  obtain ⟨i0, hi, hz0, hz1, hz2⟩ := info_parts Try.info2
  obtain ⟨a, b, c, d⟩ := x
  obtain ⟨a', b', c', d'⟩ := y
  have he : Try.prog.plainKey 2 = true := by kernel_rfl
  have hc : Try.prog.cellsOf 2 = 1 := by kernel_rfl
  have r4 : List.range 4 = [0, 1, 2, 3] := rfl
  unfold H4.val
  rw [run_equalIn_array W 9999 _ _ Try.underlying99 hi, hc, r4]
  have q0 : ∀ a b c d : Int, (part 2 #[.int .i64 a, .int .i64 b, .int .i64 c, .int .i64 d] 0).run Try.prog W = .ok (.int .i64 a) W := fun a b c d => run_part_plain W he rfl
  have q1 : ∀ a b c d : Int, (part 2 #[.int .i64 a, .int .i64 b, .int .i64 c, .int .i64 d] 1).run Try.prog W = .ok (.int .i64 b) W := fun a b c d => run_part_plain W he rfl
  have q2 : ∀ a b c d : Int, (part 2 #[.int .i64 a, .int .i64 b, .int .i64 c, .int .i64 d] 2).run Try.prog W = .ok (.int .i64 c) W := fun a b c d => run_part_plain W he rfl
  have q3 : ∀ a b c d : Int, (part 2 #[.int .i64 a, .int .i64 b, .int .i64 c, .int .i64 d] 3).run Try.prog W = .ok (.int .i64 d) W := fun a b c d => run_part_plain W he rfl
  have eq : ∀ x y : Int, (Op.equalIn 9999 2 (.int .i64 x) (.int .i64 y)).run Try.prog W = .ok (x == y) W := fun x y => run_equalIn_int W 9998 2 .i64 .i64 x y Try.underlying2
  simp only [Op.eqItems, Nat.mul_one, Sem.run_bind, Sem.run_ite, Sem.run_pure, q0, q1, q2, q3, Result.andThen_ok, eq]
  by_cases h1 : a = a' <;> by_cases h2 : b = b' <;> by_cases h3 : c = c' <;> by_cases h4 : d = d' <;> simp [h1, h2, h3, h4]
def ToldPost (w : World) (h : H4) (e : Ending) (w' : World) : Prop := e = .returned (.agg h.val) ∧ Below w.heap.size w w'
/-- a block that is the call's own is written -/
theorem below_set4 {w W : World} {b : Nat} (hb : Below w.heap.size w W) (hl : w.heap.size ≤ b) (x y z u : Value) : Below w.heap.size w ((((W.setCell ⟨b, 0, none⟩ x).setCell ⟨b, 1, none⟩ y).setCell ⟨b, 2, none⟩ z).setCell ⟨b, 3, none⟩ u) :=
  (((hb.setCell hl _).setCell hl _).setCell hl _).setCell hl _
theorem set4 {W : World} {b : Nat} {C : Array Value} (hC : C.size = 4) (h : W.heap[b]? = some (.cells C 99 (0, 0))) (x y z u : Value) :
    ((((W.setCell ⟨b, 0, none⟩ x).setCell ⟨b, 1, none⟩ y).setCell ⟨b, 2, none⟩ z).setCell ⟨b, 3, none⟩ u).heap[b]? = some (.cells #[x, y, z, u] 99 (0, 0)) := by
  rw [heap_setCell_at (heap_setCell_at (heap_setCell_at (heap_setCell_at h 0 x) 1 y) 2 z) 3 u]
  obtain ⟨l⟩ := C
  match l, hC with
  | [p, q, r, s], _ => rfl

set_option maxRecDepth 100000 in
set_option maxHeartbeats 1000000 in
theorem told_any' (A : Option Addr) (n c : Nat) (l : List UInt8) (w : World) (h : Hold w A n c l) (hl : 64 ≤ l.length) (hn : n ≤ 1048576) :
    Calls Try.prog 44 #[.slice A n c] w (ToldPost w (toldOf l)) := by
  have hb0 : Below w.heap.size w (w.alloc (.cells #[.int .i64 0, .int .i64 0, .int .i64 0, .int .i64 0] 99)) := (Below.refl _ _).alloc (Nat.le_refl _) _
  have HR := Lib.hid (oread_any A n c l _ (h.below hb0) (by omega))
  have HB0 := Lib.hid hb0
  have hres : (w.alloc (.cells #[.int .i64 0, .int .i64 0, .int .i64 0, .int .i64 0] 99)).heap[w.heap.size]? = some (.cells #[.int .i64 0, .int .i64 0, .int .i64 0, .int .i64 0] 99 (0, 0)) := heap_alloc_new w _
  have HRS := Lib.hid hres
  have hsz : (w.alloc (.cells #[.int .i64 0, .int .i64 0, .int .i64 0, .int .i64 0] 99)).heap.size = w.heap.size + 1 := by simp
  have HSZ := Lib.hid hsz
  clear h hb0 hres hsz
  go_enter Try.func44, Try.ntmps44
  go_wp2_with fail
  generalize w.alloc (.cells #[.int .i64 0, .int .i64 0, .int .i64 0, .int .i64 0] 99) = W at *
  refine HR.out.mono ?_
  rintro e w1 ⟨g, rfl, hr1, _, hb1, hg1, hg2⟩
  rw [HSZ.out] at hg1
  have hc1 := readHalf_any g l w1 hr1 (by omega)
  have HC1 := Lib.hid hc1
  have hres1 := (hb1.block w.heap.size (by rw [HSZ.out]; omega)).trans HRS.out
  have HRS1 := Lib.hid hres1
  have HB1 := Lib.hid (HB0.out.trans (hb1.mono HB0.out.size))
  have hw1 : w.heap.size < w1.heap.size := by have := hb1.size; rw [HSZ.out] at this; omega
  clear hr1 hb1 hc1 hres1 HR HRS HSZ HB0
  go_wp2_with fail
  refine HC1.out.mono ?_
  rintro e w2 ⟨rfl, hr2, hgr2⟩
  have hres2 := (hgr2.block w.heap.size hw1 (fun e => by have := Option.some.inj e; omega)).trans HRS1.out
  have hb2 : Below w.heap.size w w2 := HB1.out.grown hgr2 HB1.out.size (fun b hb => by obtain rfl := Option.some.inj hb; omega)
  have hw2 := hgr2.size
  have HRS2 := Lib.hid hres2
  have HB2 := Lib.hid hb2
  have hb3 : Below w2.heap.size w2 (w2.alloc (.cells (rdH l).val 99)) := (Below.refl _ _).alloc (Nat.le_refl _) _
  have HC2 := Lib.hid (readHalf_any g (l.drop 32) _ (hr2.below hb3) (by rw [List.length_drop]; omega))
  have HB3 := Lib.hid hb3
  clear hres2 hb2 hr2 hgr2 HC1 HB1 HRS1 hb3
  generalize hx : rdH l = x at *
  generalize hy : rdH (l.drop 32) = y at *
  have HXY := Lib.hid (And.intro hx hy)
  clear hx hy
  obtain ⟨x0, x1, x2, x3⟩ := x
  obtain ⟨y0, y1, y2, y3⟩ := y
  simp only [H4.val] at HC2 HB3 ⊢
  go_wp2_with fail
  have hone : (w2.alloc (.cells #[.int .i64 x0, .int .i64 x1, .int .i64 x2, .int .i64 x3] 99)).heap[w2.heap.size]? = some (.cells #[.int .i64 x0, .int .i64 x1, .int .i64 x2, .int .i64 x3] 99 (0, 0)) := heap_alloc_new w2 _
  have hsz3 : (w2.alloc (.cells #[.int .i64 x0, .int .i64 x1, .int .i64 x2, .int .i64 x3] 99)).heap.size = w2.heap.size + 1 := by simp
  have HON := Lib.hid hone
  have HS3 := Lib.hid hsz3
  have hres3 := (HB3.out.block w.heap.size (by omega)).trans HRS2.out
  have HRS3 := Lib.hid hres3
  have HBB := Lib.hid (HB2.out.trans (HB3.out.mono HB2.out.size))
  clear hone hsz3 hres3 HB3 HRS2 HB2
  generalize w2.alloc (.cells #[.int .i64 x0, .int .i64 x1, .int .i64 x2, .int .i64 x3] 99) = W3 at *
  refine HC2.out.mono ?_
  rintro e w4 ⟨rfl, _, hgr4⟩
  simp only [H4.val]
  have k4 : ∀ b, b < W3.heap.size → b ≠ g → w4.heap[b]? = W3.heap[b]? := fun b hb hne => hgr4.block b hb (fun e => hne (Option.some.inj e))
  have hone4 := (k4 w2.heap.size (by rw [HS3.out]; omega) (by omega)).trans HON.out
  have hres4 := (k4 w.heap.size (by rw [HS3.out]; omega) (by omega)).trans HRS3.out
  have hb4 : Below w.heap.size w w4 := HBB.out.grown hgr4 HBB.out.size (fun b hb => by obtain rfl := Option.some.inj hb; omega)
  have hw4 : w2.heap.size < w4.heap.size := by have := hgr4.size; rw [HS3.out] at this; omega
  have hal : Below w4.heap.size w4 (w4.alloc (.cells #[.int .i64 y0, .int .i64 y1, .int .i64 y2, .int .i64 y3] 99)) := (Below.refl _ _).alloc (Nat.le_refl _) _
  have hone5 := (hal.block w2.heap.size hw4).trans hone4
  have hres5 := (hal.block w.heap.size (by omega)).trans hres4
  have htwo5 : (w4.alloc (.cells #[.int .i64 y0, .int .i64 y1, .int .i64 y2, .int .i64 y3] 99)).heap[w4.heap.size]? = some (.cells #[.int .i64 y0, .int .i64 y1, .int .i64 y2, .int .i64 y3] 99 (0, 0)) := heap_alloc_new w4 _
  obtain ⟨a0, a1, a2, a3, _⟩ := box4 hone5
  obtain ⟨b0, b1, b2, b3, _⟩ := box4 htwo5
  obtain ⟨r0, r1, r2, r3, rr⟩ := box4 hres5
  have rr0 := rr 0
  have rr1 := rr 1
  have rr2 := rr 2
  have rr3 := rr 3
  have HB5 := Lib.hid (hb4.trans (hal.mono hb4.size))
  have HRS5 := Lib.hid hres5
  clear k4 hone4 hres4 hb4 hal hone5 hres5 htwo5 rr HC2 HON HS3 HRS3 HBB hgr4
  have hq := fun W => half_eq W ⟨x0, x1, x2, x3⟩ ⟨y0, y1, y2, y3⟩
  simp only [H4.val] at hq
  by_cases hxy : (⟨x0, x1, x2, x3⟩ : H4) = ⟨y0, y1, y2, y3⟩
  · have ht : toldOf l = ⟨x0, x1, x2, x3⟩ := by unfold toldOf; rw [HXY.out.1, HXY.out.2, if_pos hxy]
    simp only [hxy, decide_true] at hq
    have HT := Lib.hid ht
    have HQ := Lib.hid (set4 rfl HRS5.out (.int .i64 x0) (.int .i64 x1) (.int .i64 x2) (.int .i64 x3))
    have HBQ := Lib.hid (below_set4 HB5.out (Nat.le_refl _) (.int .i64 x0) (.int .i64 x1) (.int .i64 x2) (.int .i64 x3))
    obtain ⟨q0, q1, q2, q3, _⟩ := box4 HQ.out
    have HQ0 := Lib.hid q0
    have HQ1 := Lib.hid q1
    have HQ2 := Lib.hid q2
    have HQ3 := Lib.hid q3
    clear q0 q1 q2 q3 ht hxy HXY
    go_wp2_with fail
    exact bodyPost_ret (v := .agg #[.int .i64 x0, .int .i64 x1, .int .i64 x2, .int .i64 x3]) (by simp [results, Try.results44, go_sem, HQ0.out, HQ1.out, HQ2.out, HQ3.out]) rfl ⟨by rw [HT.out]; rfl, HBQ.out⟩
  · have ht : toldOf l = H4.zero := by unfold toldOf; rw [HXY.out.1, HXY.out.2, if_neg hxy]
    simp only [hxy, decide_false] at hq
    have HT := Lib.hid ht
    have HQ := Lib.hid (set4 rfl HRS5.out (.int .i64 0) (.int .i64 0) (.int .i64 0) (.int .i64 0))
    have HBQ := Lib.hid (below_set4 HB5.out (Nat.le_refl _) (.int .i64 0) (.int .i64 0) (.int .i64 0) (.int .i64 0))
    obtain ⟨q0, q1, q2, q3, _⟩ := box4 HQ.out
    have HQ0 := Lib.hid q0
    have HQ1 := Lib.hid q1
    have HQ2 := Lib.hid q2
    have HQ3 := Lib.hid q3
    clear q0 q1 q2 q3 ht hxy HXY
    go_wp2_with fail
    exact bodyPost_ret (v := .agg #[.int .i64 0, .int .i64 0, .int .i64 0, .int .i64 0]) (by simp [results, Try.results44, go_sem, HQ0.out, HQ1.out, HQ2.out, HQ3.out]) rfl ⟨by rw [HT.out]; rfl, HBQ.out⟩

/-! ### sector -/
theorem idx_two0 (W : World) (a b c d : Int) : (Instr.index 156 (.agg #[.int .i64 a, .int .i64 b, .int .i64 c, .int .i64 d, .int .i64 a, .int .i64 b, .int .i64 c, .int .i64 d]) (.int .i64 0)).run Try.prog W = .ok (.agg #[.int .i64 a, .int .i64 b, .int .i64 c, .int .i64 d]) W := by
  simp [Instr.index, run_underlying Try.underlying156, asIntOf, part, Try.isAgg99, Try.sizeOf99, go_sem]
theorem idx_two1 (W : World) (a b c d : Int) : (Instr.index 156 (.agg #[.int .i64 a, .int .i64 b, .int .i64 c, .int .i64 d, .int .i64 a, .int .i64 b, .int .i64 c, .int .i64 d]) (.int .i64 1)).run Try.prog W = .ok (.agg #[.int .i64 a, .int .i64 b, .int .i64 c, .int .i64 d]) W := by
  simp [Instr.index, run_underlying Try.underlying156, asIntOf, part, Try.isAgg99, Try.sizeOf99, go_sem]
theorem idx_four0 (W : World) (a b c d : Int) : (Instr.index 99 (.agg #[.int .i64 a, .int .i64 b, .int .i64 c, .int .i64 d]) (.int .i64 0)).run Try.prog W = .ok (.int .i64 a) W := by
  simp [Instr.index, run_underlying Try.underlying99, asIntOf, part, Try.isAgg2, Try.sizeOf2, go_sem]
theorem idx_four1 (W : World) (a b c d : Int) : (Instr.index 99 (.agg #[.int .i64 a, .int .i64 b, .int .i64 c, .int .i64 d]) (.int .i64 1)).run Try.prog W = .ok (.int .i64 b) W := by
  simp [Instr.index, run_underlying Try.underlying99, asIntOf, part, Try.isAgg2, Try.sizeOf2, go_sem]
theorem idx_four2 (W : World) (a b c d : Int) : (Instr.index 99 (.agg #[.int .i64 a, .int .i64 b, .int .i64 c, .int .i64 d]) (.int .i64 2)).run Try.prog W = .ok (.int .i64 c) W := by
  simp [Instr.index, run_underlying Try.underlying99, asIntOf, part, Try.isAgg2, Try.sizeOf2, go_sem]
theorem idx_four3 (W : World) (a b c d : Int) : (Instr.index 99 (.agg #[.int .i64 a, .int .i64 b, .int .i64 c, .int .i64 d]) (.int .i64 3)).run Try.prog W = .ok (.int .i64 d) W := by
  simp [Instr.index, run_underlying Try.underlying99, asIntOf, part, Try.isAgg2, Try.sizeOf2, go_sem]
def piB (h : H4) (m : Nat) : List UInt8 := (([h.t, h.a, h.e, h.c, h.t, h.a, h.e, h.c].take m).map dig).flatten
theorem piB_end (h : H4) : piB h 8 = secB h := by simp [piB, secB, digH]

set_option maxRecDepth 100000 in
set_option maxHeartbeats 1000000 in
theorem sector_any (x0 x1 x2 x3 : Int) (w : World) : Calls Try.prog 81 #[.agg #[.int .i64 x0, .int .i64 x1, .int .i64 x2, .int .i64 x3]] w (NewRow w (secB ⟨x0, x1, x2, x3⟩)) := by
  have HE := Lib.hid (piB_end ⟨x0, x1, x2, x3⟩)
  have hb0 : Below w.heap.size w (w.alloc (.cells #[.int .i64 x0, .int .i64 x1, .int .i64 x2, .int .i64 x3] 99)) := (Below.refl _ _).alloc (Nat.le_refl _) _
  have HB0 := Lib.hid hb0
  clear hb0
  go_enter Try.func81, Try.ntmps81
  go_wp2_with fail
  generalize w.alloc (.cells #[.int .i64 x0, .int .i64 x1, .int .i64 x2, .int .i64 x3] 99) = W at *
  go_loopg [3, 5, 7, 11, 15] 2 (fun kx v3 _ _ v11 _ wr => ∃ (j : Nat) (A : Option Addr) (n c : Nat), v3 = .slice A n c ∧ v11 = .int .i64 (j : Int) ∧ j ≤ 2 ∧ 2 - j ≤ kx ∧ n ≤ 64 ∧ Aside (wr.ownsRow w.heap.size 5 1 (.slice A n c) n (bv (piB ⟨x0, x1, x2, x3⟩ (4 * j)))) ∧ Aside (Below w.heap.size w wr))
  case atStart => exact ⟨0, none, 0, 0, rfl, rfl, by omega, by omega, by omega, (World.ownsRow_nil _ _ _ _ : Aside _), (HB0.out : Aside _)⟩
  case round =>
    clear HB0
    obtain ⟨j, A, n, c, rfl, rfl, hj2, hkx, hn, HO, HB⟩ := hrel
    by_cases hlt : j < 2
    · rcases (show j = 0 ∨ j = 1 by omega) with rfl | rfl
      · have hix := fun W => idx_two0 W x0 x1 x2 x3
        go_wp2_with fail
        clear hix
        have HB2 := Lib.hid (HB.out.alloc HB.out.size (.cells #[.int .i64 x0, .int .i64 x1, .int .i64 x2, .int .i64 x3] 99))
        have HO2 := Lib.hid (HO.out.alloc (.cells #[.int .i64 x0, .int .i64 x1, .int .i64 x2, .int .i64 x3] 99))
        generalize wr.alloc (.cells #[.int .i64 x0, .int .i64 x1, .int .i64 x2, .int .i64 x3] 99) = W2 at *
        go_loopg [3, 7, 15] 4 (fun ky v3 _ v15 wr => ∃ (k : Nat) (A : Option Addr) (n c : Nat), v3 = .slice A n c ∧ v15 = .int .i64 (k : Int) ∧ k ≤ 4 ∧ 4 - k ≤ ky ∧ n ≤ 64 ∧ Aside (wr.ownsRow w.heap.size 5 1 (.slice A n c) n (bv (piB ⟨x0, x1, x2, x3⟩ (0 + k)))) ∧ Aside (Below w.heap.size w wr))
        case atStart => exact ⟨0, A, n, c, rfl, rfl, by omega, by omega, hn, (HO2.out : Aside _), (HB2.out : Aside _)⟩
        case round =>
          clear HB2 HO2 HO HB
          obtain ⟨k, A, n, c, rfl, rfl, hk4, hky, hn, HO, HB⟩ := hrel
          by_cases hlt2 : k < 4
          · have HI := Lib.hid (fun x => putInt_any A n c _ x wr (Hold.of_own HO.out) (by omega))
            rcases (show k = 0 ∨ k = 1 ∨ k = 2 ∨ k = 3 by omega) with rfl | rfl | rfl | rfl
            · have hix := fun W => idx_four0 W x0 x1 x2 x3
              go_wp2_with (go_at_call 56; refine (HI.out _).mono ?_; rintro e w5 ⟨A5, n5, c5, rfl, ho5, hb5⟩; have HO5 := Lib.hid (own_mono ho5 HB.out.size); have HB5 := Lib.hid (HB.out.trans (hb5.mono HB.out.size)); clear ho5 hb5)
              have hp : piB ⟨x0, x1, x2, x3⟩ (0 + 0) ++ dig x0 = piB ⟨x0, x1, x2, x3⟩ (0 + 1) := by simp [piB]
              have hn5 : n5 ≤ 64 := by
                have := (Hold.of_own HO5.out).1
                rw [← this, hp]
                simp [piB, dig_length]
              have ho5 := HO5.out
              rw [hp] at ho5
              have HO6 := Lib.hid ho5
              clear ho5 hp
              go_roundg (4 - 1)
              case measure => omega
              case rel => exact ⟨1, A5, n5, c5, rfl, rfl, by omega, Nat.le_refl _, hn5, (HO6.out : Aside _), (HB5.out : Aside _)⟩
            · have hix := fun W => idx_four1 W x0 x1 x2 x3
              go_wp2_with (go_at_call 56; refine (HI.out _).mono ?_; rintro e w5 ⟨A5, n5, c5, rfl, ho5, hb5⟩; have HO5 := Lib.hid (own_mono ho5 HB.out.size); have HB5 := Lib.hid (HB.out.trans (hb5.mono HB.out.size)); clear ho5 hb5)
              have hp : piB ⟨x0, x1, x2, x3⟩ (0 + 1) ++ dig x1 = piB ⟨x0, x1, x2, x3⟩ (0 + 2) := by simp [piB]
              have hn5 : n5 ≤ 64 := by
                have := (Hold.of_own HO5.out).1
                rw [← this, hp]
                simp [piB, dig_length]
              have ho5 := HO5.out
              rw [hp] at ho5
              have HO6 := Lib.hid ho5
              clear ho5 hp
              go_roundg (4 - 2)
              case measure => omega
              case rel => exact ⟨2, A5, n5, c5, rfl, rfl, by omega, Nat.le_refl _, hn5, (HO6.out : Aside _), (HB5.out : Aside _)⟩
            · have hix := fun W => idx_four2 W x0 x1 x2 x3
              go_wp2_with (go_at_call 56; refine (HI.out _).mono ?_; rintro e w5 ⟨A5, n5, c5, rfl, ho5, hb5⟩; have HO5 := Lib.hid (own_mono ho5 HB.out.size); have HB5 := Lib.hid (HB.out.trans (hb5.mono HB.out.size)); clear ho5 hb5)
              have hp : piB ⟨x0, x1, x2, x3⟩ (0 + 2) ++ dig x2 = piB ⟨x0, x1, x2, x3⟩ (0 + 3) := by simp [piB]
              have hn5 : n5 ≤ 64 := by
                have := (Hold.of_own HO5.out).1
                rw [← this, hp]
                simp [piB, dig_length]
              have ho5 := HO5.out
              rw [hp] at ho5
              have HO6 := Lib.hid ho5
              clear ho5 hp
              go_roundg (4 - 3)
              case measure => omega
              case rel => exact ⟨3, A5, n5, c5, rfl, rfl, by omega, Nat.le_refl _, hn5, (HO6.out : Aside _), (HB5.out : Aside _)⟩
            · have hix := fun W => idx_four3 W x0 x1 x2 x3
              go_wp2_with (go_at_call 56; refine (HI.out _).mono ?_; rintro e w5 ⟨A5, n5, c5, rfl, ho5, hb5⟩; have HO5 := Lib.hid (own_mono ho5 HB.out.size); have HB5 := Lib.hid (HB.out.trans (hb5.mono HB.out.size)); clear ho5 hb5)
              have hp : piB ⟨x0, x1, x2, x3⟩ (0 + 3) ++ dig x3 = piB ⟨x0, x1, x2, x3⟩ (0 + 4) := by simp [piB]
              have hn5 : n5 ≤ 64 := by
                have := (Hold.of_own HO5.out).1
                rw [← this, hp]
                simp [piB, dig_length]
              have ho5 := HO5.out
              rw [hp] at ho5
              have HO6 := Lib.hid ho5
              clear ho5 hp
              go_roundg (4 - 4)
              case measure => omega
              case rel => exact ⟨4, A5, n5, c5, rfl, rfl, by omega, Nat.le_refl _, hn5, (HO6.out : Aside _), (HB5.out : Aside _)⟩
          · obtain rfl : k = 4 := by omega
            go_wp2_with fail
            go_roundg (2 - 1)
            case measure => omega
            case rel => exact ⟨1, A, n, c, rfl, rfl, by omega, Nat.le_refl _, hn, HO, HB⟩
      · have hix := fun W => idx_two1 W x0 x1 x2 x3
        go_wp2_with fail
        clear hix
        have HB2 := Lib.hid (HB.out.alloc HB.out.size (.cells #[.int .i64 x0, .int .i64 x1, .int .i64 x2, .int .i64 x3] 99))
        have HO2 := Lib.hid (HO.out.alloc (.cells #[.int .i64 x0, .int .i64 x1, .int .i64 x2, .int .i64 x3] 99))
        generalize wr.alloc (.cells #[.int .i64 x0, .int .i64 x1, .int .i64 x2, .int .i64 x3] 99) = W2 at *
        go_loopg [3, 7, 15] 4 (fun ky v3 _ v15 wr => ∃ (k : Nat) (A : Option Addr) (n c : Nat), v3 = .slice A n c ∧ v15 = .int .i64 (k : Int) ∧ k ≤ 4 ∧ 4 - k ≤ ky ∧ n ≤ 64 ∧ Aside (wr.ownsRow w.heap.size 5 1 (.slice A n c) n (bv (piB ⟨x0, x1, x2, x3⟩ (4 + k)))) ∧ Aside (Below w.heap.size w wr))
        case atStart => exact ⟨0, A, n, c, rfl, rfl, by omega, by omega, hn, (HO2.out : Aside _), (HB2.out : Aside _)⟩
        case round =>
          clear HB2 HO2 HO HB
          obtain ⟨k, A, n, c, rfl, rfl, hk4, hky, hn, HO, HB⟩ := hrel
          by_cases hlt2 : k < 4
          · have HI := Lib.hid (fun x => putInt_any A n c _ x wr (Hold.of_own HO.out) (by omega))
            rcases (show k = 0 ∨ k = 1 ∨ k = 2 ∨ k = 3 by omega) with rfl | rfl | rfl | rfl
            · have hix := fun W => idx_four0 W x0 x1 x2 x3
              go_wp2_with (go_at_call 56; refine (HI.out _).mono ?_; rintro e w5 ⟨A5, n5, c5, rfl, ho5, hb5⟩; have HO5 := Lib.hid (own_mono ho5 HB.out.size); have HB5 := Lib.hid (HB.out.trans (hb5.mono HB.out.size)); clear ho5 hb5)
              have hp : piB ⟨x0, x1, x2, x3⟩ (4 + 0) ++ dig x0 = piB ⟨x0, x1, x2, x3⟩ (4 + 1) := by simp [piB]
              have hn5 : n5 ≤ 64 := by
                have := (Hold.of_own HO5.out).1
                rw [← this, hp]
                simp [piB, dig_length]
              have ho5 := HO5.out
              rw [hp] at ho5
              have HO6 := Lib.hid ho5
              clear ho5 hp
              go_roundg (4 - 1)
              case measure => omega
              case rel => exact ⟨1, A5, n5, c5, rfl, rfl, by omega, Nat.le_refl _, hn5, (HO6.out : Aside _), (HB5.out : Aside _)⟩
            · have hix := fun W => idx_four1 W x0 x1 x2 x3
              go_wp2_with (go_at_call 56; refine (HI.out _).mono ?_; rintro e w5 ⟨A5, n5, c5, rfl, ho5, hb5⟩; have HO5 := Lib.hid (own_mono ho5 HB.out.size); have HB5 := Lib.hid (HB.out.trans (hb5.mono HB.out.size)); clear ho5 hb5)
              have hp : piB ⟨x0, x1, x2, x3⟩ (4 + 1) ++ dig x1 = piB ⟨x0, x1, x2, x3⟩ (4 + 2) := by simp [piB]
              have hn5 : n5 ≤ 64 := by
                have := (Hold.of_own HO5.out).1
                rw [← this, hp]
                simp [piB, dig_length]
              have ho5 := HO5.out
              rw [hp] at ho5
              have HO6 := Lib.hid ho5
              clear ho5 hp
              go_roundg (4 - 2)
              case measure => omega
              case rel => exact ⟨2, A5, n5, c5, rfl, rfl, by omega, Nat.le_refl _, hn5, (HO6.out : Aside _), (HB5.out : Aside _)⟩
            · have hix := fun W => idx_four2 W x0 x1 x2 x3
              go_wp2_with (go_at_call 56; refine (HI.out _).mono ?_; rintro e w5 ⟨A5, n5, c5, rfl, ho5, hb5⟩; have HO5 := Lib.hid (own_mono ho5 HB.out.size); have HB5 := Lib.hid (HB.out.trans (hb5.mono HB.out.size)); clear ho5 hb5)
              have hp : piB ⟨x0, x1, x2, x3⟩ (4 + 2) ++ dig x2 = piB ⟨x0, x1, x2, x3⟩ (4 + 3) := by simp [piB]
              have hn5 : n5 ≤ 64 := by
                have := (Hold.of_own HO5.out).1
                rw [← this, hp]
                simp [piB, dig_length]
              have ho5 := HO5.out
              rw [hp] at ho5
              have HO6 := Lib.hid ho5
              clear ho5 hp
              go_roundg (4 - 3)
              case measure => omega
              case rel => exact ⟨3, A5, n5, c5, rfl, rfl, by omega, Nat.le_refl _, hn5, (HO6.out : Aside _), (HB5.out : Aside _)⟩
            · have hix := fun W => idx_four3 W x0 x1 x2 x3
              go_wp2_with (go_at_call 56; refine (HI.out _).mono ?_; rintro e w5 ⟨A5, n5, c5, rfl, ho5, hb5⟩; have HO5 := Lib.hid (own_mono ho5 HB.out.size); have HB5 := Lib.hid (HB.out.trans (hb5.mono HB.out.size)); clear ho5 hb5)
              have hp : piB ⟨x0, x1, x2, x3⟩ (4 + 3) ++ dig x3 = piB ⟨x0, x1, x2, x3⟩ (4 + 4) := by simp [piB]
              have hn5 : n5 ≤ 64 := by
                have := (Hold.of_own HO5.out).1
                rw [← this, hp]
                simp [piB, dig_length]
              have ho5 := HO5.out
              rw [hp] at ho5
              have HO6 := Lib.hid ho5
              clear ho5 hp
              go_roundg (4 - 4)
              case measure => omega
              case rel => exact ⟨4, A5, n5, c5, rfl, rfl, by omega, Nat.le_refl _, hn5, (HO6.out : Aside _), (HB5.out : Aside _)⟩
          · obtain rfl : k = 4 := by omega
            go_wp2_with fail
            go_roundg (2 - 2)
            case measure => omega
            case rel => exact ⟨2, A, n, c, rfl, rfl, by omega, Nat.le_refl _, hn, HO, HB⟩
    · obtain rfl : j = 2 := by omega
      go_wp2_with fail
      go_ret
      refine ⟨A, n, c, rfl, ?_, HB.out⟩
      rw [← HE.out]
      exact HO.out
end Go.Proofs.Ytbfhlleipeipbaa
