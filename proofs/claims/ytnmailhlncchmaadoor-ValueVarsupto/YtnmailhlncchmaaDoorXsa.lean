/-
  What is proved: contract of the document's Same. Conditions: those in each statement.
-/
import Derived.Test.YtnmailhlncchmaaDoorXge
import Derived.Test.YtnmailhlncchmaaDoorXl
namespace Go.Proofs.YtnmailhlncchmaaDoor
open Go.RowKit

/-- the same variable? -/
def eqR (x y : Vr) : Bool := (x.nm.toList == y.nm.toList) && ((x.v.k == y.v.k) && ((x.v.n == y.v.n) && (x.v.s.toList == y.v.s.toList)))
theorem eqR_iff {x y : Vr} : eqR x y = true ↔ x = y := by
  obtain ⟨a, ⟨k, n, s⟩⟩ := x
  obtain ⟨a', ⟨k', n', s'⟩⟩ := y
  unfold eqR
  simp only [Bool.and_eq_true, beq_iff_eq]
  constructor
  · rintro ⟨h1, rfl, rfl, h4⟩
    rw [ByteArray.toList_eq, ByteArray.toList_eq] at h1 h4
    rw [ba_ext h1, ba_ext h4]
  · intro h
    injection h with h1 h2
    injection h2 with h3 h4 h5
    subst h1 h3 h4 h5
    exact ⟨rfl, rfl, rfl, rfl⟩
def sameB : List Vr → List Vr → Bool
  | [], [] => true
  | x :: a, y :: b => eqR x y && sameB a b
  | _, _ => false
theorem sameB_iff : ∀ a b : List Vr, sameB a b = true ↔ a = b
  | [], [] => by simp [sameB]
  | [], y :: b => by simp [sameB]
  | x :: a, [] => by simp [sameB]
  | x :: a, y :: b => by
    unfold sameB
    rw [Bool.and_eq_true, eqR_iff, sameB_iff a b]
    simp
theorem sameB_self (a : List Vr) : sameB a a = true := (sameB_iff a a).2 rfl
theorem sameB_len {a b : List Vr} (h : a.length ≠ b.length) : sameB a b = false := by
  cases hs : sameB a b with
  | false => rfl
  | true => exact absurd (congrArg List.length ((sameB_iff a b).1 hs)) h
theorem sameB_at {a b : List Vr} {i : Nat} (h : i < a.length) (h' : i < b.length) : sameB (a.drop i) (b.drop i) = (eqR a[i] b[i] && sameB (a.drop (i + 1)) (b.drop (i + 1))) := by
  rw [List.drop_eq_getElem_cons h, List.drop_eq_getElem_cons h']; rfl
def sameT (b o b2 o2 n c c2 i : Nat) (nm : ByteArray) (k m : Int) (s nm2 : ByteArray) (k2 m2 : Int) (s2 : ByteArray) : Nat → Value
  | 0 => .slice (some ⟨b, o, none⟩) n c
  | 1 => .int .i64 (i : Int)
  | 2 => .pointer (some ⟨b, o + i * 4, none⟩)
  | 3 => .agg #[.string nm, .int .i64 k, .int .i64 m, .string s]
  | 4 => .slice (some ⟨b2, o2, none⟩) n c2
  | 5 => .int .i64 (i : Int)
  | 6 => .pointer (some ⟨b2, o2 + i * 4, none⟩)
  | 7 => .agg #[.string nm2, .int .i64 k2, .int .i64 m2, .string s2]
  | 8 => .bool true
  | _ => undef
def sameF (b o b2 o2 n c c2 i : Nat) (nm : ByteArray) (k m : Int) (s nm2 : ByteArray) (k2 m2 : Int) (s2 : ByteArray) : Nat → Value
  | 0 => .slice (some ⟨b, o, none⟩) n c
  | 1 => .int .i64 (i : Int)
  | 2 => .pointer (some ⟨b, o + i * 4, none⟩)
  | 3 => .agg #[.string nm, .int .i64 k, .int .i64 m, .string s]
  | 4 => .slice (some ⟨b2, o2, none⟩) n c2
  | 5 => .int .i64 (i : Int)
  | 6 => .pointer (some ⟨b2, o2 + i * 4, none⟩)
  | 7 => .agg #[.string nm2, .int .i64 k2, .int .i64 m2, .string s2]
  | 8 => .bool false
  | _ => undef
set_option maxHeartbeats 16000000 in
set_option maxRecDepth 100000 in
theorem dSame_any (w : World) (A A2 : Option Addr) (n c n2 c2 : Nat) (l l2 : List Vr) (h : HR w A n c l) (h2 : HR w A2 n2 c2 l2) (hn : n ≤ 140737488355328) : Calls Tryd.prog 23 #[.slice A n c, .slice A2 n2 c2] w fun e w' => e = .returned (.bool (sameB l l2)) ∧ Below w.heap.size w w' := by
  have hln := h.1
  have hln2 := h2.1
  by_cases hnn : n = n2
  · subst hnn
    have HH := Lib.hid h
    have HH2 := Lib.hid h2
    clear h h2
    go_enter Tryd.func23, Tryd.ntmps23
    go_wp2
    go_loopg [5] n (fun kx vi wr => ∃ i : Nat, vi = .int .i64 (i : Int) ∧ i ≤ n ∧ n - i ≤ kx ∧ Hid (sameB l l2 = sameB (l.drop i) (l2.drop i)) ∧ Hid (Below w.heap.size w wr))
    case atStart => exact ⟨0, rfl, Nat.zero_le _, Nat.le_refl _, Lib.hid rfl, Lib.hid (Below.refl _ _)⟩
    case round =>
      obtain ⟨i, rfl, hi, hkx, HI, HB⟩ := hrel
      by_cases he : i < n
      · have hil : i < l.length := by omega
        have hil2 : i < l2.length := by omega
        obtain ⟨b, o, rfl, hlt, e0, e1, e2, e3⟩ := HH.out.elem i hil
        obtain ⟨b2, o2, rfl, hlt2, g0, g1, g2, g3⟩ := HH2.out.elem i hil2
        have D0 := Lib.hid ((HB.out.cell (p := ⟨b, o + i * 4, none⟩) hlt).trans e0)
        have D1 := Lib.hid ((HB.out.cell (p := ⟨b, o + i * 4 + 1, none⟩) hlt).trans e1)
        have D2 := Lib.hid ((HB.out.cell (p := ⟨b, o + i * 4 + 2, none⟩) hlt).trans e2)
        have D3 := Lib.hid ((HB.out.cell (p := ⟨b, o + i * 4 + 3, none⟩) hlt).trans e3)
        have E0 := Lib.hid ((HB.out.cell (p := ⟨b2, o2 + i * 4, none⟩) hlt2).trans g0)
        have E1 := Lib.hid ((HB.out.cell (p := ⟨b2, o2 + i * 4 + 1, none⟩) hlt2).trans g1)
        have E2 := Lib.hid ((HB.out.cell (p := ⟨b2, o2 + i * 4 + 2, none⟩) hlt2).trans g2)
        have E3 := Lib.hid ((HB.out.cell (p := ⟨b2, o2 + i * 4 + 3, none⟩) hlt2).trans g3)
        have HL1 := Lib.hid (Nat.lt_of_lt_of_le hlt HB.out.size)
        have HL2 := Lib.hid (Nat.lt_of_lt_of_le hlt2 HB.out.size)
        have HAT := Lib.hid (HI.out.trans (sameB_at hil hil2))
        clear e0 e1 e2 e3 g0 g1 g2 g3 HI
        have hiz : (0 : Int) ≤ (i : Int) := by omega
        have hiz2 : (i : Int) < (n : Int) := by omega
        generalize l[i] = x at *
        generalize l2[i] = y at *
        obtain ⟨nm, k, m, s⟩ := x
        obtain ⟨nm2, k2, m2, s2⟩ := y
        simp only at D0 D1 D2 D3 E0 E1 E2 E3
        cases hq : eqR ⟨nm, k, m, s⟩ ⟨nm2, k2, m2, s2⟩ with
        | true =>
          have HN : Hid (sameB l l2 = sameB (l.drop (i + 1)) (l2.drop (i + 1))) := Lib.hid (by rw [HAT.out, hq, Bool.true_and])
          have hxy := eqR_iff.1 hq
          injection hxy with x1 x2
          injection x2 with x3 x4 x5
          subst x1 x3 x4 x5
          clear hq HAT
          go_wp2_with fail
          refine wp_region_steps (fun j v _ => v = sameF b o b2 o2 n c c2 i nm k m s nm k m s j) (belR wr.heap.size) (by kernel_rfl) (by kernel_rfl) (fun _ => Below.refl _ _) (fun _ _ _ h k => belR_trans h k) (fun _ _ _ _ h _ => h) ?_ ?_
          · refine ⟨?_, ?_, ?_, ?_, ?_, ?_, ?_, ?_, ?_, trivial⟩
            · intro a W hR hoff hd
              left
              refine ⟨rfl, ?_⟩
              have e0 : a.tmps.getD 0 undef = .slice (some ⟨b, o, none⟩) n c := hoff.slot 0 (no_dst (by kernel_rfl))
              go_simp
              exact ⟨_, rfl, rfl, Below.refl _ _⟩
            · intro a W hR hoff hd
              left
              refine ⟨rfl, ?_⟩
              have e0 : a.tmps.getD 5 undef = .int .i64 (i : Int) := hoff.slot 5 (no_dst (by kernel_rfl))
              go_simp
              exact ⟨_, rfl, rfl, Below.refl _ _⟩
            · intro a W hR hoff hd
              left
              refine ⟨rfl, ?_⟩
              have e0 : a.tmps.getD 17 undef = .slice (some ⟨b, o, none⟩) n c := hd 0 _ rfl rfl
              have e1 : a.tmps.getD 18 undef = .int .i64 (i : Int) := hd 1 _ rfl rfl
              go_simp
              exact ⟨_, rfl, rfl, Below.refl _ _⟩
            · intro a W hR hoff hd
              left
              refine ⟨rfl, ?_⟩
              have e0 : a.tmps.getD 19 undef = .pointer (some ⟨b, o + i * 4, none⟩) := hd 2 _ rfl rfl
              have c0 := cell_in (und hR) HL1.out D0.out
              have c1 := cell_in (und hR) HL1.out D1.out
              have c2 := cell_in (und hR) HL1.out D2.out
              have c3 := cell_in (und hR) HL1.out D3.out
              go_simp
              exact ⟨_, rfl, rfl, Below.refl _ _⟩
            · intro a W hR hoff hd
              left
              refine ⟨rfl, ?_⟩
              have e0 : a.tmps.getD 1 undef = .slice (some ⟨b2, o2, none⟩) n c2 := hoff.slot 1 (no_dst (by kernel_rfl))
              go_simp
              exact ⟨_, rfl, rfl, Below.refl _ _⟩
            · intro a W hR hoff hd
              left
              refine ⟨rfl, ?_⟩
              have e0 : a.tmps.getD 5 undef = .int .i64 (i : Int) := hoff.slot 5 (no_dst (by kernel_rfl))
              go_simp
              exact ⟨_, rfl, rfl, Below.refl _ _⟩
            · intro a W hR hoff hd
              left
              refine ⟨rfl, ?_⟩
              have e0 : a.tmps.getD 21 undef = .slice (some ⟨b2, o2, none⟩) n c2 := hd 4 _ rfl rfl
              have e1 : a.tmps.getD 22 undef = .int .i64 (i : Int) := hd 5 _ rfl rfl
              go_simp
              exact ⟨_, rfl, rfl, Below.refl _ _⟩
            · intro a W hR hoff hd
              left
              refine ⟨rfl, ?_⟩
              have e0 : a.tmps.getD 23 undef = .pointer (some ⟨b2, o2 + i * 4, none⟩) := hd 6 _ rfl rfl
              have c0 := cell_in (und hR) HL2.out E0.out
              have c1 := cell_in (und hR) HL2.out E1.out
              have c2 := cell_in (und hR) HL2.out E2.out
              have c3 := cell_in (und hR) HL2.out E3.out
              go_simp
              exact ⟨_, rfl, rfl, Below.refl _ _⟩
            · intro a W hR hoff hd
              left
              refine ⟨rfl, ?_⟩
              have e0 : a.tmps.getD 20 undef = .agg #[.string nm, .int .i64 k, .int .i64 m, .string s] := hd 3 _ rfl rfl
              have e1 : a.tmps.getD 24 undef = .agg #[.string nm, .int .i64 k, .int .i64 m, .string s] := hd 7 _ rfl rfl
              go_simp
              first | exact ⟨_, rfl, rfl, Below.refl _ _⟩ | exact ⟨_, rfl, congrArg Value.bool (by assumption), Below.refl _ _⟩
          · intro a W hR hoff hd
            have e25 : a.tmps.getD 25 undef = .bool false := hd 8 _ rfl
            have HBW := Lib.hid (HB.out.trans ((und hR).mono HB.out.size))
            obtain ⟨ys, hys, ha⟩ := off_form hoff (mask := [false, false, false, false, false, false, false, false, false, false, false, false, false, false, false, false, false, true, true, true, true, true, true, true, true, true]) (by kernel_rfl)
            rw [hys] at e25
            subst ha
            clear hd hR
            simp only [fillFrom, Nat.zero_add, Nat.reduceAdd] at *
            rw [e25]
            clear e25 hys hoff
            rename_i hK
            refine hK _ _ ?_
            clear hK
            go_wp2_with fail
            go_roundg (n - (i + 1))
            case measure => omega
            case rel => exact ⟨i + 1, by go_num, by omega, Nat.le_refl _, HN, HBW⟩
        | false =>
          have HT : Hid (sameB l l2 = false) := Lib.hid (by rw [HAT.out, hq, Bool.false_and])
          unfold eqR at hq
          simp only at hq
          clear HAT
          cases q1 : (nm.toList == nm2.toList) with
          | false =>
            go_wp2_with fail
            refine wp_region_steps (fun j v _ => v = sameT b o b2 o2 n c c2 i nm k m s nm2 k2 m2 s2 j) (belR wr.heap.size) (by kernel_rfl) (by kernel_rfl) (fun _ => Below.refl _ _) (fun _ _ _ h k => belR_trans h k) (fun _ _ _ _ h _ => h) ?_ ?_
            · refine ⟨?_, ?_, ?_, ?_, ?_, ?_, ?_, ?_, ?_, trivial⟩
              · intro a W hR hoff hd
                left
                refine ⟨rfl, ?_⟩
                have e0 : a.tmps.getD 0 undef = .slice (some ⟨b, o, none⟩) n c := hoff.slot 0 (no_dst (by kernel_rfl))
                go_simp
                exact ⟨_, rfl, rfl, Below.refl _ _⟩
              · intro a W hR hoff hd
                left
                refine ⟨rfl, ?_⟩
                have e0 : a.tmps.getD 5 undef = .int .i64 (i : Int) := hoff.slot 5 (no_dst (by kernel_rfl))
                go_simp
                exact ⟨_, rfl, rfl, Below.refl _ _⟩
              · intro a W hR hoff hd
                left
                refine ⟨rfl, ?_⟩
                have e0 : a.tmps.getD 17 undef = .slice (some ⟨b, o, none⟩) n c := hd 0 _ rfl rfl
                have e1 : a.tmps.getD 18 undef = .int .i64 (i : Int) := hd 1 _ rfl rfl
                go_simp
                exact ⟨_, rfl, rfl, Below.refl _ _⟩
              · intro a W hR hoff hd
                left
                refine ⟨rfl, ?_⟩
                have e0 : a.tmps.getD 19 undef = .pointer (some ⟨b, o + i * 4, none⟩) := hd 2 _ rfl rfl
                have c0 := cell_in (und hR) HL1.out D0.out
                have c1 := cell_in (und hR) HL1.out D1.out
                have c2 := cell_in (und hR) HL1.out D2.out
                have c3 := cell_in (und hR) HL1.out D3.out
                go_simp
                exact ⟨_, rfl, rfl, Below.refl _ _⟩
              · intro a W hR hoff hd
                left
                refine ⟨rfl, ?_⟩
                have e0 : a.tmps.getD 1 undef = .slice (some ⟨b2, o2, none⟩) n c2 := hoff.slot 1 (no_dst (by kernel_rfl))
                go_simp
                exact ⟨_, rfl, rfl, Below.refl _ _⟩
              · intro a W hR hoff hd
                left
                refine ⟨rfl, ?_⟩
                have e0 : a.tmps.getD 5 undef = .int .i64 (i : Int) := hoff.slot 5 (no_dst (by kernel_rfl))
                go_simp
                exact ⟨_, rfl, rfl, Below.refl _ _⟩
              · intro a W hR hoff hd
                left
                refine ⟨rfl, ?_⟩
                have e0 : a.tmps.getD 21 undef = .slice (some ⟨b2, o2, none⟩) n c2 := hd 4 _ rfl rfl
                have e1 : a.tmps.getD 22 undef = .int .i64 (i : Int) := hd 5 _ rfl rfl
                go_simp
                exact ⟨_, rfl, rfl, Below.refl _ _⟩
              · intro a W hR hoff hd
                left
                refine ⟨rfl, ?_⟩
                have e0 : a.tmps.getD 23 undef = .pointer (some ⟨b2, o2 + i * 4, none⟩) := hd 6 _ rfl rfl
                have c0 := cell_in (und hR) HL2.out E0.out
                have c1 := cell_in (und hR) HL2.out E1.out
                have c2 := cell_in (und hR) HL2.out E2.out
                have c3 := cell_in (und hR) HL2.out E3.out
                go_simp
                exact ⟨_, rfl, rfl, Below.refl _ _⟩
              · intro a W hR hoff hd
                left
                refine ⟨rfl, ?_⟩
                have e0 : a.tmps.getD 20 undef = .agg #[.string nm, .int .i64 k, .int .i64 m, .string s] := hd 3 _ rfl rfl
                have e1 : a.tmps.getD 24 undef = .agg #[.string nm2, .int .i64 k2, .int .i64 m2, .string s2] := hd 7 _ rfl rfl
                go_simp
                first | exact ⟨_, rfl, rfl, Below.refl _ _⟩ | exact ⟨_, rfl, congrArg Value.bool (by assumption), Below.refl _ _⟩
            · intro a W hR hoff hd
              have e25 : a.tmps.getD 25 undef = .bool true := hd 8 _ rfl
              have HBW := Lib.hid (HB.out.trans ((und hR).mono HB.out.size))
              obtain ⟨ys, hys, ha⟩ := off_form hoff (mask := [false, false, false, false, false, false, false, false, false, false, false, false, false, false, false, false, false, true, true, true, true, true, true, true, true, true]) (by kernel_rfl)
              rw [hys] at e25
              subst ha
              clear hd hR
              simp only [fillFrom, Nat.zero_add, Nat.reduceAdd] at *
              rw [e25]
              clear e25 hys hoff
              rename_i hK
              refine hK _ _ ?_
              clear hK
              go_wp2_with fail
              go_ret
              exact ⟨by rw [HT.out]; rfl, HBW.out⟩
          | true =>
            rw [q1, Bool.true_and] at hq
            cases q2 : (k == k2) with
            | false =>
              go_wp2_with fail
              refine wp_region_steps (fun j v _ => v = sameT b o b2 o2 n c c2 i nm k m s nm2 k2 m2 s2 j) (belR wr.heap.size) (by kernel_rfl) (by kernel_rfl) (fun _ => Below.refl _ _) (fun _ _ _ h k => belR_trans h k) (fun _ _ _ _ h _ => h) ?_ ?_
              · refine ⟨?_, ?_, ?_, ?_, ?_, ?_, ?_, ?_, ?_, trivial⟩
                · intro a W hR hoff hd
                  left
                  refine ⟨rfl, ?_⟩
                  have e0 : a.tmps.getD 0 undef = .slice (some ⟨b, o, none⟩) n c := hoff.slot 0 (no_dst (by kernel_rfl))
                  go_simp
                  exact ⟨_, rfl, rfl, Below.refl _ _⟩
                · intro a W hR hoff hd
                  left
                  refine ⟨rfl, ?_⟩
                  have e0 : a.tmps.getD 5 undef = .int .i64 (i : Int) := hoff.slot 5 (no_dst (by kernel_rfl))
                  go_simp
                  exact ⟨_, rfl, rfl, Below.refl _ _⟩
                · intro a W hR hoff hd
                  left
                  refine ⟨rfl, ?_⟩
                  have e0 : a.tmps.getD 17 undef = .slice (some ⟨b, o, none⟩) n c := hd 0 _ rfl rfl
                  have e1 : a.tmps.getD 18 undef = .int .i64 (i : Int) := hd 1 _ rfl rfl
                  go_simp
                  exact ⟨_, rfl, rfl, Below.refl _ _⟩
                · intro a W hR hoff hd
                  left
                  refine ⟨rfl, ?_⟩
                  have e0 : a.tmps.getD 19 undef = .pointer (some ⟨b, o + i * 4, none⟩) := hd 2 _ rfl rfl
                  have c0 := cell_in (und hR) HL1.out D0.out
                  have c1 := cell_in (und hR) HL1.out D1.out
                  have c2 := cell_in (und hR) HL1.out D2.out
                  have c3 := cell_in (und hR) HL1.out D3.out
                  go_simp
                  exact ⟨_, rfl, rfl, Below.refl _ _⟩
                · intro a W hR hoff hd
                  left
                  refine ⟨rfl, ?_⟩
                  have e0 : a.tmps.getD 1 undef = .slice (some ⟨b2, o2, none⟩) n c2 := hoff.slot 1 (no_dst (by kernel_rfl))
                  go_simp
                  exact ⟨_, rfl, rfl, Below.refl _ _⟩
                · intro a W hR hoff hd
                  left
                  refine ⟨rfl, ?_⟩
                  have e0 : a.tmps.getD 5 undef = .int .i64 (i : Int) := hoff.slot 5 (no_dst (by kernel_rfl))
                  go_simp
                  exact ⟨_, rfl, rfl, Below.refl _ _⟩
                · intro a W hR hoff hd
                  left
                  refine ⟨rfl, ?_⟩
                  have e0 : a.tmps.getD 21 undef = .slice (some ⟨b2, o2, none⟩) n c2 := hd 4 _ rfl rfl
                  have e1 : a.tmps.getD 22 undef = .int .i64 (i : Int) := hd 5 _ rfl rfl
                  go_simp
                  exact ⟨_, rfl, rfl, Below.refl _ _⟩
                · intro a W hR hoff hd
                  left
                  refine ⟨rfl, ?_⟩
                  have e0 : a.tmps.getD 23 undef = .pointer (some ⟨b2, o2 + i * 4, none⟩) := hd 6 _ rfl rfl
                  have c0 := cell_in (und hR) HL2.out E0.out
                  have c1 := cell_in (und hR) HL2.out E1.out
                  have c2 := cell_in (und hR) HL2.out E2.out
                  have c3 := cell_in (und hR) HL2.out E3.out
                  go_simp
                  exact ⟨_, rfl, rfl, Below.refl _ _⟩
                · intro a W hR hoff hd
                  left
                  refine ⟨rfl, ?_⟩
                  have e0 : a.tmps.getD 20 undef = .agg #[.string nm, .int .i64 k, .int .i64 m, .string s] := hd 3 _ rfl rfl
                  have e1 : a.tmps.getD 24 undef = .agg #[.string nm2, .int .i64 k2, .int .i64 m2, .string s2] := hd 7 _ rfl rfl
                  go_simp
                  first | exact ⟨_, rfl, rfl, Below.refl _ _⟩ | exact ⟨_, rfl, congrArg Value.bool (by assumption), Below.refl _ _⟩
              · intro a W hR hoff hd
                have e25 : a.tmps.getD 25 undef = .bool true := hd 8 _ rfl
                have HBW := Lib.hid (HB.out.trans ((und hR).mono HB.out.size))
                obtain ⟨ys, hys, ha⟩ := off_form hoff (mask := [false, false, false, false, false, false, false, false, false, false, false, false, false, false, false, false, false, true, true, true, true, true, true, true, true, true]) (by kernel_rfl)
                rw [hys] at e25
                subst ha
                clear hd hR
                simp only [fillFrom, Nat.zero_add, Nat.reduceAdd] at *
                rw [e25]
                clear e25 hys hoff
                rename_i hK
                refine hK _ _ ?_
                clear hK
                go_wp2_with fail
                go_ret
                exact ⟨by rw [HT.out]; rfl, HBW.out⟩
            | true =>
              rw [q2, Bool.true_and] at hq
              cases q3 : (m == m2) with
              | false =>
                go_wp2_with fail
                refine wp_region_steps (fun j v _ => v = sameT b o b2 o2 n c c2 i nm k m s nm2 k2 m2 s2 j) (belR wr.heap.size) (by kernel_rfl) (by kernel_rfl) (fun _ => Below.refl _ _) (fun _ _ _ h k => belR_trans h k) (fun _ _ _ _ h _ => h) ?_ ?_
                · refine ⟨?_, ?_, ?_, ?_, ?_, ?_, ?_, ?_, ?_, trivial⟩
                  · intro a W hR hoff hd
                    left
                    refine ⟨rfl, ?_⟩
                    have e0 : a.tmps.getD 0 undef = .slice (some ⟨b, o, none⟩) n c := hoff.slot 0 (no_dst (by kernel_rfl))
                    go_simp
                    exact ⟨_, rfl, rfl, Below.refl _ _⟩
                  · intro a W hR hoff hd
                    left
                    refine ⟨rfl, ?_⟩
                    have e0 : a.tmps.getD 5 undef = .int .i64 (i : Int) := hoff.slot 5 (no_dst (by kernel_rfl))
                    go_simp
                    exact ⟨_, rfl, rfl, Below.refl _ _⟩
                  · intro a W hR hoff hd
                    left
                    refine ⟨rfl, ?_⟩
                    have e0 : a.tmps.getD 17 undef = .slice (some ⟨b, o, none⟩) n c := hd 0 _ rfl rfl
                    have e1 : a.tmps.getD 18 undef = .int .i64 (i : Int) := hd 1 _ rfl rfl
                    go_simp
                    exact ⟨_, rfl, rfl, Below.refl _ _⟩
                  · intro a W hR hoff hd
                    left
                    refine ⟨rfl, ?_⟩
                    have e0 : a.tmps.getD 19 undef = .pointer (some ⟨b, o + i * 4, none⟩) := hd 2 _ rfl rfl
                    have c0 := cell_in (und hR) HL1.out D0.out
                    have c1 := cell_in (und hR) HL1.out D1.out
                    have c2 := cell_in (und hR) HL1.out D2.out
                    have c3 := cell_in (und hR) HL1.out D3.out
                    go_simp
                    exact ⟨_, rfl, rfl, Below.refl _ _⟩
                  · intro a W hR hoff hd
                    left
                    refine ⟨rfl, ?_⟩
                    have e0 : a.tmps.getD 1 undef = .slice (some ⟨b2, o2, none⟩) n c2 := hoff.slot 1 (no_dst (by kernel_rfl))
                    go_simp
                    exact ⟨_, rfl, rfl, Below.refl _ _⟩
                  · intro a W hR hoff hd
                    left
                    refine ⟨rfl, ?_⟩
                    have e0 : a.tmps.getD 5 undef = .int .i64 (i : Int) := hoff.slot 5 (no_dst (by kernel_rfl))
                    go_simp
                    exact ⟨_, rfl, rfl, Below.refl _ _⟩
                  · intro a W hR hoff hd
                    left
                    refine ⟨rfl, ?_⟩
                    have e0 : a.tmps.getD 21 undef = .slice (some ⟨b2, o2, none⟩) n c2 := hd 4 _ rfl rfl
                    have e1 : a.tmps.getD 22 undef = .int .i64 (i : Int) := hd 5 _ rfl rfl
                    go_simp
                    exact ⟨_, rfl, rfl, Below.refl _ _⟩
                  · intro a W hR hoff hd
                    left
                    refine ⟨rfl, ?_⟩
                    have e0 : a.tmps.getD 23 undef = .pointer (some ⟨b2, o2 + i * 4, none⟩) := hd 6 _ rfl rfl
                    have c0 := cell_in (und hR) HL2.out E0.out
                    have c1 := cell_in (und hR) HL2.out E1.out
                    have c2 := cell_in (und hR) HL2.out E2.out
                    have c3 := cell_in (und hR) HL2.out E3.out
                    go_simp
                    exact ⟨_, rfl, rfl, Below.refl _ _⟩
                  · intro a W hR hoff hd
                    left
                    refine ⟨rfl, ?_⟩
                    have e0 : a.tmps.getD 20 undef = .agg #[.string nm, .int .i64 k, .int .i64 m, .string s] := hd 3 _ rfl rfl
                    have e1 : a.tmps.getD 24 undef = .agg #[.string nm2, .int .i64 k2, .int .i64 m2, .string s2] := hd 7 _ rfl rfl
                    go_simp
                    first | exact ⟨_, rfl, rfl, Below.refl _ _⟩ | exact ⟨_, rfl, congrArg Value.bool (by assumption), Below.refl _ _⟩
                · intro a W hR hoff hd
                  have e25 : a.tmps.getD 25 undef = .bool true := hd 8 _ rfl
                  have HBW := Lib.hid (HB.out.trans ((und hR).mono HB.out.size))
                  obtain ⟨ys, hys, ha⟩ := off_form hoff (mask := [false, false, false, false, false, false, false, false, false, false, false, false, false, false, false, false, false, true, true, true, true, true, true, true, true, true]) (by kernel_rfl)
                  rw [hys] at e25
                  subst ha
                  clear hd hR
                  simp only [fillFrom, Nat.zero_add, Nat.reduceAdd] at *
                  rw [e25]
                  clear e25 hys hoff
                  rename_i hK
                  refine hK _ _ ?_
                  clear hK
                  go_wp2_with fail
                  go_ret
                  exact ⟨by rw [HT.out]; rfl, HBW.out⟩
              | true =>
                rw [q3, Bool.true_and] at hq
                have q4 := hq
                go_wp2_with fail
                refine wp_region_steps (fun j v _ => v = sameT b o b2 o2 n c c2 i nm k m s nm2 k2 m2 s2 j) (belR wr.heap.size) (by kernel_rfl) (by kernel_rfl) (fun _ => Below.refl _ _) (fun _ _ _ h k => belR_trans h k) (fun _ _ _ _ h _ => h) ?_ ?_
                · refine ⟨?_, ?_, ?_, ?_, ?_, ?_, ?_, ?_, ?_, trivial⟩
                  · intro a W hR hoff hd
                    left
                    refine ⟨rfl, ?_⟩
                    have e0 : a.tmps.getD 0 undef = .slice (some ⟨b, o, none⟩) n c := hoff.slot 0 (no_dst (by kernel_rfl))
                    go_simp
                    exact ⟨_, rfl, rfl, Below.refl _ _⟩
                  · intro a W hR hoff hd
                    left
                    refine ⟨rfl, ?_⟩
                    have e0 : a.tmps.getD 5 undef = .int .i64 (i : Int) := hoff.slot 5 (no_dst (by kernel_rfl))
                    go_simp
                    exact ⟨_, rfl, rfl, Below.refl _ _⟩
                  · intro a W hR hoff hd
                    left
                    refine ⟨rfl, ?_⟩
                    have e0 : a.tmps.getD 17 undef = .slice (some ⟨b, o, none⟩) n c := hd 0 _ rfl rfl
                    have e1 : a.tmps.getD 18 undef = .int .i64 (i : Int) := hd 1 _ rfl rfl
                    go_simp
                    exact ⟨_, rfl, rfl, Below.refl _ _⟩
                  · intro a W hR hoff hd
                    left
                    refine ⟨rfl, ?_⟩
                    have e0 : a.tmps.getD 19 undef = .pointer (some ⟨b, o + i * 4, none⟩) := hd 2 _ rfl rfl
                    have c0 := cell_in (und hR) HL1.out D0.out
                    have c1 := cell_in (und hR) HL1.out D1.out
                    have c2 := cell_in (und hR) HL1.out D2.out
                    have c3 := cell_in (und hR) HL1.out D3.out
                    go_simp
                    exact ⟨_, rfl, rfl, Below.refl _ _⟩
                  · intro a W hR hoff hd
                    left
                    refine ⟨rfl, ?_⟩
                    have e0 : a.tmps.getD 1 undef = .slice (some ⟨b2, o2, none⟩) n c2 := hoff.slot 1 (no_dst (by kernel_rfl))
                    go_simp
                    exact ⟨_, rfl, rfl, Below.refl _ _⟩
                  · intro a W hR hoff hd
                    left
                    refine ⟨rfl, ?_⟩
                    have e0 : a.tmps.getD 5 undef = .int .i64 (i : Int) := hoff.slot 5 (no_dst (by kernel_rfl))
                    go_simp
                    exact ⟨_, rfl, rfl, Below.refl _ _⟩
                  · intro a W hR hoff hd
                    left
                    refine ⟨rfl, ?_⟩
                    have e0 : a.tmps.getD 21 undef = .slice (some ⟨b2, o2, none⟩) n c2 := hd 4 _ rfl rfl
                    have e1 : a.tmps.getD 22 undef = .int .i64 (i : Int) := hd 5 _ rfl rfl
                    go_simp
                    exact ⟨_, rfl, rfl, Below.refl _ _⟩
                  · intro a W hR hoff hd
                    left
                    refine ⟨rfl, ?_⟩
                    have e0 : a.tmps.getD 23 undef = .pointer (some ⟨b2, o2 + i * 4, none⟩) := hd 6 _ rfl rfl
                    have c0 := cell_in (und hR) HL2.out E0.out
                    have c1 := cell_in (und hR) HL2.out E1.out
                    have c2 := cell_in (und hR) HL2.out E2.out
                    have c3 := cell_in (und hR) HL2.out E3.out
                    go_simp
                    exact ⟨_, rfl, rfl, Below.refl _ _⟩
                  · intro a W hR hoff hd
                    left
                    refine ⟨rfl, ?_⟩
                    have e0 : a.tmps.getD 20 undef = .agg #[.string nm, .int .i64 k, .int .i64 m, .string s] := hd 3 _ rfl rfl
                    have e1 : a.tmps.getD 24 undef = .agg #[.string nm2, .int .i64 k2, .int .i64 m2, .string s2] := hd 7 _ rfl rfl
                    go_simp
                    first | exact ⟨_, rfl, rfl, Below.refl _ _⟩ | exact ⟨_, rfl, congrArg Value.bool (by assumption), Below.refl _ _⟩
                · intro a W hR hoff hd
                  have e25 : a.tmps.getD 25 undef = .bool true := hd 8 _ rfl
                  have HBW := Lib.hid (HB.out.trans ((und hR).mono HB.out.size))
                  obtain ⟨ys, hys, ha⟩ := off_form hoff (mask := [false, false, false, false, false, false, false, false, false, false, false, false, false, false, false, false, false, true, true, true, true, true, true, true, true, true]) (by kernel_rfl)
                  rw [hys] at e25
                  subst ha
                  clear hd hR
                  simp only [fillFrom, Nat.zero_add, Nat.reduceAdd] at *
                  rw [e25]
                  clear e25 hys hoff
                  rename_i hK
                  refine hK _ _ ?_
                  clear hK
                  go_wp2_with fail
                  go_ret
                  exact ⟨by rw [HT.out]; rfl, HBW.out⟩
      · have HT : Hid (sameB l l2 = true) := Lib.hid (by rw [HI.out, List.drop_of_length_le (by omega), List.drop_of_length_le (by omega)]; rfl)
        go_wp2
        go_ret
        exact ⟨by rw [HT.out]; rfl, HB.out⟩
  · have HT := Lib.hid (sameB_len (a := l) (b := l2) (by omega))
    have hnz : ((n : Int) == (n2 : Int)) = false := beq_eq_false_iff_ne.2 (by omega)
    have hnz2 : ((n : Int) != (n2 : Int)) = true := by simp [bne, hnz]
    clear h h2
    go_enter Tryd.func23, Tryd.ntmps23
    go_wp2
    go_ret
    exact ⟨by rw [HT.out]; rfl, Below.refl _ _⟩
end Go.Proofs.YtnmailhlncchmaaDoor
