/-
  What is proved: contract of the document's Vars. Conditions: those in each statement.
-/
import Derived.Test.YtnmailhlncchmaaDoorXe
import Derived.Test.YtnmailhlncchmaaDoorXl
namespace Go.Proofs.YtnmailhlncchmaaDoor
open Go.RowKit

theorem unwanted_undef {ops : Array Oper} {o : Oper} {a : Act} {j : Nat} {b : Bool} {p : Oper} {d : Tmp} (hg : o.guard = some (j, b)) (hp : ops[j]? = some p) (hd : p.dst = some d) (h : a.tmps.getD d undef = undef) : Region.wanted o (yielded ops a.tmps) = false := by
  cases hx : a.tmps[d]? with
  | none => simp [Region.wanted, hg, yielded, hp, hd, hx]
  | some x =>
    simp [hx] at h
    subst h
    simp [Region.wanted, hg, yielded, hp, hd, hx, undef]
def dvF1 (b o n c i _q : Nat) (nm : ByteArray) (_k _m : Int) (_s _pn : ByteArray) : Nat → Value
  | 0 => .slice (some ⟨b, o, none⟩) n c
  | 1 => .int .i64 (i : Int)
  | 2 => .pointer (some ⟨b, o + i * 4, none⟩)
  | 3 => .pointer (some ⟨b, o + i * 4, none⟩)
  | 4 => .string nm
  | 5 => .bool false
  | 6 => .bool true
  | 7 => .bool true
  | 8 => undef
  | 9 => undef
  | 10 => undef
  | 11 => undef
  | 12 => undef
  | 13 => undef
  | 14 => undef
  | 15 => .bool true
  | 16 => .bool true
  | 17 => undef
  | 18 => undef
  | 19 => undef
  | 20 => undef
  | 21 => undef
  | 22 => undef
  | 23 => undef
  | 24 => undef
  | 25 => undef
  | 26 => undef
  | 27 => undef
  | 28 => undef
  | 29 => undef
  | 30 => undef
  | 31 => undef
  | 32 => undef
  | 33 => .bool true
  | _ => undef
def dvF2 (b o n c i _q : Nat) (nm : ByteArray) (k m : Int) (s _pn : ByteArray) : Nat → Value
  | 0 => .slice (some ⟨b, o, none⟩) n c
  | 1 => .int .i64 (i : Int)
  | 2 => .pointer (some ⟨b, o + i * 4, none⟩)
  | 3 => .pointer (some ⟨b, o + i * 4, none⟩)
  | 4 => .string nm
  | 5 => .bool true
  | 6 => .bool false
  | 7 => .bool false
  | 8 => .slice (some ⟨b, o, none⟩) n c
  | 9 => .int .i64 (i : Int)
  | 10 => .pointer (some ⟨b, o + i * 4, none⟩)
  | 11 => .pointer (some ⟨b, o + i * 4 + 1, none⟩)
  | 12 => .agg #[.int .i64 k, .int .i64 m, .string s]
  | 13 => .bool false
  | 14 => .bool true
  | 15 => .bool true
  | 16 => .bool true
  | 17 => undef
  | 18 => undef
  | 19 => undef
  | 20 => undef
  | 21 => undef
  | 22 => undef
  | 23 => undef
  | 24 => undef
  | 25 => undef
  | 26 => undef
  | 27 => undef
  | 28 => undef
  | 29 => undef
  | 30 => undef
  | 31 => undef
  | 32 => undef
  | 33 => .bool true
  | _ => undef
def dvF3 (b o n c i _q : Nat) (nm : ByteArray) (k m : Int) (s _pn : ByteArray) : Nat → Value
  | 0 => .slice (some ⟨b, o, none⟩) n c
  | 1 => .int .i64 (i : Int)
  | 2 => .pointer (some ⟨b, o + i * 4, none⟩)
  | 3 => .pointer (some ⟨b, o + i * 4, none⟩)
  | 4 => .string nm
  | 5 => .bool true
  | 6 => .bool false
  | 7 => .bool false
  | 8 => .slice (some ⟨b, o, none⟩) n c
  | 9 => .int .i64 (i : Int)
  | 10 => .pointer (some ⟨b, o + i * 4, none⟩)
  | 11 => .pointer (some ⟨b, o + i * 4 + 1, none⟩)
  | 12 => .agg #[.int .i64 k, .int .i64 m, .string s]
  | 13 => .bool true
  | 14 => .bool false
  | 15 => .bool false
  | 16 => .bool false
  | 17 => .int .i64 (i : Int)
  | 18 => .bool false
  | 19 => .bool false
  | 20 => undef
  | 21 => undef
  | 22 => undef
  | 23 => undef
  | 24 => undef
  | 25 => undef
  | 26 => undef
  | 27 => undef
  | 28 => undef
  | 29 => undef
  | 30 => undef
  | 31 => undef
  | 32 => .bool false
  | 33 => .bool false
  | _ => undef
def dvF4 (b o n c i q : Nat) (nm : ByteArray) (k m : Int) (s pn : ByteArray) : Nat → Value
  | 0 => .slice (some ⟨b, o, none⟩) n c
  | 1 => .int .i64 (i : Int)
  | 2 => .pointer (some ⟨b, o + i * 4, none⟩)
  | 3 => .pointer (some ⟨b, o + i * 4, none⟩)
  | 4 => .string nm
  | 5 => .bool true
  | 6 => .bool false
  | 7 => .bool false
  | 8 => .slice (some ⟨b, o, none⟩) n c
  | 9 => .int .i64 (i : Int)
  | 10 => .pointer (some ⟨b, o + i * 4, none⟩)
  | 11 => .pointer (some ⟨b, o + i * 4 + 1, none⟩)
  | 12 => .agg #[.int .i64 k, .int .i64 m, .string s]
  | 13 => .bool true
  | 14 => .bool false
  | 15 => .bool false
  | 16 => .bool false
  | 17 => .int .i64 (i : Int)
  | 18 => .bool true
  | 19 => .bool true
  | 20 => .slice (some ⟨b, o, none⟩) n c
  | 21 => .int .i64 (i : Int)
  | 22 => .pointer (some ⟨b, o + i * 4, none⟩)
  | 23 => .pointer (some ⟨b, o + i * 4, none⟩)
  | 24 => .string nm
  | 25 => .slice (some ⟨b, o, none⟩) n c
  | 26 => .int .i64 (i : Int)
  | 27 => .int .i64 (q : Int)
  | 28 => .pointer (some ⟨b, o + q * 4, none⟩)
  | 29 => .pointer (some ⟨b, o + q * 4, none⟩)
  | 30 => .string pn
  | 31 => .bool false
  | 32 => .bool false
  | 33 => .bool false
  | _ => undef
def dvF5 (b o n c i q : Nat) (nm : ByteArray) (k m : Int) (s pn : ByteArray) : Nat → Value
  | 0 => .slice (some ⟨b, o, none⟩) n c
  | 1 => .int .i64 (i : Int)
  | 2 => .pointer (some ⟨b, o + i * 4, none⟩)
  | 3 => .pointer (some ⟨b, o + i * 4, none⟩)
  | 4 => .string nm
  | 5 => .bool true
  | 6 => .bool false
  | 7 => .bool false
  | 8 => .slice (some ⟨b, o, none⟩) n c
  | 9 => .int .i64 (i : Int)
  | 10 => .pointer (some ⟨b, o + i * 4, none⟩)
  | 11 => .pointer (some ⟨b, o + i * 4 + 1, none⟩)
  | 12 => .agg #[.int .i64 k, .int .i64 m, .string s]
  | 13 => .bool true
  | 14 => .bool false
  | 15 => .bool false
  | 16 => .bool false
  | 17 => .int .i64 (i : Int)
  | 18 => .bool true
  | 19 => .bool true
  | 20 => .slice (some ⟨b, o, none⟩) n c
  | 21 => .int .i64 (i : Int)
  | 22 => .pointer (some ⟨b, o + i * 4, none⟩)
  | 23 => .pointer (some ⟨b, o + i * 4, none⟩)
  | 24 => .string nm
  | 25 => .slice (some ⟨b, o, none⟩) n c
  | 26 => .int .i64 (i : Int)
  | 27 => .int .i64 (q : Int)
  | 28 => .pointer (some ⟨b, o + q * 4, none⟩)
  | 29 => .pointer (some ⟨b, o + q * 4, none⟩)
  | 30 => .string pn
  | 31 => .bool true
  | 32 => .bool true
  | 33 => .bool true
  | _ => undef
theorem leq_not (a b : ByteArray) : (Op.bytesLess a.toList b.toList || a.toList == b.toList) = !(bl b a) := by
  cases h : bl b a with
  | true =>
    have h1 : Op.bytesLess a.toList b.toList = false := by
      cases h' : Op.bytesLess a.toList b.toList with
      | false => rfl
      | true => exact absurd (less_trans _ _ _ h' h) (by rw [less_irr]; decide)
    have h2 : (a.toList == b.toList) = false := by
      cases h' : (a.toList == b.toList) with
      | false => rfl
      | true =>
        have e := eq_of_beq h'
        unfold bl at h
        rw [e, less_irr] at h
        cases h
    rw [h1, h2]; rfl
  | false =>
    cases h' : bl a b with
    | true =>
      unfold bl at h'
      rw [h']; rfl
    | false =>
      obtain rfl := bl_total a b h' h
      simp
theorem vsF_long (l : List Vr) : varsB l = (decide (l.length ≤ 16) && vsF (prevN l 0) (l.drop 0)) := rfl
set_option maxHeartbeats 16000000 in
set_option maxRecDepth 100000 in
theorem dVars_any (w : World) (A : Option Addr) (n c : Nat) (l : List Vr) (h : HR w A n c l) (hn : n ≤ 140737488355328) : Calls Tryd.prog 22 #[.slice A n c] w fun e w' => e = .returned (.bool (varsB l)) ∧ Below w.heap.size w w' := by
  have hln := h.1
  have HV := Lib.hid (vsF_long l)
  have HH := Lib.hid h
  clear h
  go_enter Tryd.func22, Tryd.ntmps22
  go_wp2
  go_loopg [3] n (fun kx vi wr => ∃ i : Nat, vi = .int .i64 (i : Int) ∧ i ≤ n ∧ n - i ≤ kx ∧ Hid (varsB l = (decide (l.length ≤ 16) && vsF (prevN l i) (l.drop i))) ∧ Hid (Below w.heap.size w wr))
  case atStart => exact ⟨0, rfl, Nat.zero_le _, Nat.le_refl _, HV, Lib.hid (Below.refl _ _)⟩
  case round =>
    clear HV
    obtain ⟨i, rfl, hi, hkx, HI, HB⟩ := hrel
    by_cases he : i < n
    · have hil : i < l.length := by omega
      obtain ⟨b, o, rfl, hlt, e0, e1, e2, e3⟩ := HH.out.elem i hil
      have D0 := Lib.hid ((HB.out.cell (p := ⟨b, o + i * 4, none⟩) hlt).trans e0)
      have D1 := Lib.hid ((HB.out.cell (p := ⟨b, o + i * 4 + 1, none⟩) hlt).trans e1)
      have D2 := Lib.hid ((HB.out.cell (p := ⟨b, o + i * 4 + 2, none⟩) hlt).trans e2)
      have D3 := Lib.hid ((HB.out.cell (p := ⟨b, o + i * 4 + 3, none⟩) hlt).trans e3)
      have HL1 := Lib.hid (Nat.lt_of_lt_of_le hlt HB.out.size)
      have HON := Lib.hid (HI.out.trans (congrArg (decide (l.length ≤ 16) && ·) (vsF_on l i hil)))
      have HPS := Lib.hid (prev_some l i hil)
      have hiz : (0 : Int) ≤ (i : Int) := by omega
      have hiz2 : (i : Int) < (n : Int) := by omega
      clear e0 e1 e2 e3 HI
      generalize hx : l[i] = x at *
      obtain ⟨nm, k, m, s⟩ := x
      simp only at D0 D1 D2 D3
      have HDN := Lib.hid (fun W => dName_any W nm)
      have HDM := Lib.hid (fun W => dMay_any W k m s)
      cases hnb : nameB nm.data.toList with
      | false =>
        rw [hnb] at HDN
        have HT : Hid (varsB l = false) := Lib.hid (by rw [HON.out, hnb]; simp)
        clear hnb HON HPS hx
        go_wp2_with fail
        refine wp_region_steps (fun j v _ => v = dvF1 b o n c i 0 nm k m s ⟨#[]⟩ j) (belR wr.heap.size) (by kernel_rfl) (by kernel_rfl) (fun _ => Below.refl _ _) (fun _ _ _ h k => belR_trans h k) (fun _ _ _ _ h _ => h) ?_ ?_
        · refine ⟨?_, ?_, ?_, ?_, ?_, ?_, ?_, ?_, ?_, ?_, ?_, ?_, ?_, ?_, ?_, ?_, ?_, ?_, ?_, ?_, ?_, ?_, ?_, ?_, ?_, ?_, ?_, ?_, ?_, ?_, ?_, ?_, ?_, ?_, trivial⟩
          · intro a W hR hoff hd
            left
            refine ⟨rfl, ?_⟩
            have e0 : a.tmps.getD 0 undef = .slice (some ⟨b, o, none⟩) n c := hoff.slot 0 (no_dst (by kernel_rfl))
            go_simp
            exact ⟨_, rfl, rfl, Below.refl _ _⟩
          · intro a W hR hoff hd
            left
            refine ⟨rfl, ?_⟩
            have e0 : a.tmps.getD 3 undef = .int .i64 (i : Int) := hoff.slot 3 (no_dst (by kernel_rfl))
            go_simp
            exact ⟨_, rfl, rfl, Below.refl _ _⟩
          · intro a W hR hoff hd
            left
            refine ⟨rfl, ?_⟩
            have e0 : a.tmps.getD 10 undef = .slice (some ⟨b, o, none⟩) n c := hd 0 _ rfl rfl
            have e1 : a.tmps.getD 11 undef = .int .i64 (i : Int) := hd 1 _ rfl rfl
            go_simp
            exact ⟨_, rfl, rfl, Below.refl _ _⟩
          · intro a W hR hoff hd
            left
            refine ⟨rfl, ?_⟩
            have e0 : a.tmps.getD 12 undef = .pointer (some ⟨b, o + i * 4, none⟩) := hd 2 _ rfl rfl
            go_simp
            exact ⟨_, rfl, rfl, Below.refl _ _⟩
          · intro a W hR hoff hd
            left
            refine ⟨rfl, ?_⟩
            have e0 : a.tmps.getD 13 undef = .pointer (some ⟨b, o + i * 4, none⟩) := hd 3 _ rfl rfl
            have c0 := cell_in (und hR) HL1.out D0.out
            go_simp
            exact ⟨_, rfl, rfl, Below.refl _ _⟩
          · intro a W hR hoff hd
            left
            refine ⟨rfl, ?_⟩
            have e0 : a.tmps.getD 14 undef = .string nm := hd 4 _ rfl rfl
            go_simp
            refine (HDN.out W).mono ?_
            rintro e W2 ⟨rfl, rfl⟩
            exact ⟨_, rfl, rfl, Below.refl _ _⟩
          · intro a W hR hoff hd
            left
            refine ⟨rfl, ?_⟩
            have e0 : a.tmps.getD 15 undef = .bool false := hd 5 _ rfl rfl
            go_simp
            exact ⟨_, rfl, rfl, Below.refl _ _⟩
          · intro a W hR hoff hd
            left
            refine ⟨rfl, ?_⟩
            have e0 : a.tmps.getD 16 undef = .bool true := hd 6 _ rfl rfl
            go_simp
            exact ⟨_, rfl, rfl, Below.refl _ _⟩
          · intro a W hR hoff hd
            right
            have eg : a.tmps.getD 17 undef = .bool true := hd 7 _ rfl rfl
            exact ⟨unwanted_of (ops := _) (j := 7) (b := false) rfl rfl rfl (b2 := true) (by decide) eg, rfl⟩
          · intro a W hR hoff hd
            right
            have eg : a.tmps.getD 17 undef = .bool true := hd 7 _ rfl rfl
            exact ⟨unwanted_of (ops := _) (j := 7) (b := false) rfl rfl rfl (b2 := true) (by decide) eg, rfl⟩
          · intro a W hR hoff hd
            right
            have eg : a.tmps.getD 17 undef = .bool true := hd 7 _ rfl rfl
            exact ⟨unwanted_of (ops := _) (j := 7) (b := false) rfl rfl rfl (b2 := true) (by decide) eg, rfl⟩
          · intro a W hR hoff hd
            right
            have eg : a.tmps.getD 17 undef = .bool true := hd 7 _ rfl rfl
            exact ⟨unwanted_of (ops := _) (j := 7) (b := false) rfl rfl rfl (b2 := true) (by decide) eg, rfl⟩
          · intro a W hR hoff hd
            right
            have eg : a.tmps.getD 17 undef = .bool true := hd 7 _ rfl rfl
            exact ⟨unwanted_of (ops := _) (j := 7) (b := false) rfl rfl rfl (b2 := true) (by decide) eg, rfl⟩
          · intro a W hR hoff hd
            right
            have eg : a.tmps.getD 17 undef = .bool true := hd 7 _ rfl rfl
            exact ⟨unwanted_of (ops := _) (j := 7) (b := false) rfl rfl rfl (b2 := true) (by decide) eg, rfl⟩
          · intro a W hR hoff hd
            right
            have eg : a.tmps.getD 17 undef = .bool true := hd 7 _ rfl rfl
            exact ⟨unwanted_of (ops := _) (j := 7) (b := false) rfl rfl rfl (b2 := true) (by decide) eg, rfl⟩
          · intro a W hR hoff hd
            left
            refine ⟨rfl, ?_⟩
            have e0 : a.tmps.getD 17 undef = .bool true := hd 7 _ rfl rfl
            have e1 : a.tmps.getD 24 undef = undef := hd 14 _ rfl rfl
            go_simp
            exact ⟨_, rfl, rfl, Below.refl _ _⟩
          · intro a W hR hoff hd
            left
            refine ⟨rfl, ?_⟩
            have e0 : a.tmps.getD 25 undef = .bool true := hd 15 _ rfl rfl
            go_simp
            exact ⟨_, rfl, rfl, Below.refl _ _⟩
          · intro a W hR hoff hd
            right
            have eg : a.tmps.getD 26 undef = .bool true := hd 16 _ rfl rfl
            exact ⟨unwanted_of (ops := _) (j := 16) (b := false) rfl rfl rfl (b2 := true) (by decide) eg, rfl⟩
          · intro a W hR hoff hd
            right
            have eg : a.tmps.getD 26 undef = .bool true := hd 16 _ rfl rfl
            exact ⟨unwanted_of (ops := _) (j := 16) (b := false) rfl rfl rfl (b2 := true) (by decide) eg, rfl⟩
          · intro a W hR hoff hd
            right
            have eg : a.tmps.getD 26 undef = .bool true := hd 16 _ rfl rfl
            exact ⟨unwanted_of (ops := _) (j := 16) (b := false) rfl rfl rfl (b2 := true) (by decide) eg, rfl⟩
          · intro a W hR hoff hd
            right
            have eg : a.tmps.getD 29 undef = undef := hd 19 _ rfl rfl
            exact ⟨unwanted_undef (ops := _) (j := 19) (b := true) rfl rfl rfl eg, rfl⟩
          · intro a W hR hoff hd
            right
            have eg : a.tmps.getD 29 undef = undef := hd 19 _ rfl rfl
            exact ⟨unwanted_undef (ops := _) (j := 19) (b := true) rfl rfl rfl eg, rfl⟩
          · intro a W hR hoff hd
            right
            have eg : a.tmps.getD 29 undef = undef := hd 19 _ rfl rfl
            exact ⟨unwanted_undef (ops := _) (j := 19) (b := true) rfl rfl rfl eg, rfl⟩
          · intro a W hR hoff hd
            right
            have eg : a.tmps.getD 29 undef = undef := hd 19 _ rfl rfl
            exact ⟨unwanted_undef (ops := _) (j := 19) (b := true) rfl rfl rfl eg, rfl⟩
          · intro a W hR hoff hd
            right
            have eg : a.tmps.getD 29 undef = undef := hd 19 _ rfl rfl
            exact ⟨unwanted_undef (ops := _) (j := 19) (b := true) rfl rfl rfl eg, rfl⟩
          · intro a W hR hoff hd
            right
            have eg : a.tmps.getD 29 undef = undef := hd 19 _ rfl rfl
            exact ⟨unwanted_undef (ops := _) (j := 19) (b := true) rfl rfl rfl eg, rfl⟩
          · intro a W hR hoff hd
            right
            have eg : a.tmps.getD 29 undef = undef := hd 19 _ rfl rfl
            exact ⟨unwanted_undef (ops := _) (j := 19) (b := true) rfl rfl rfl eg, rfl⟩
          · intro a W hR hoff hd
            right
            have eg : a.tmps.getD 29 undef = undef := hd 19 _ rfl rfl
            exact ⟨unwanted_undef (ops := _) (j := 19) (b := true) rfl rfl rfl eg, rfl⟩
          · intro a W hR hoff hd
            right
            have eg : a.tmps.getD 29 undef = undef := hd 19 _ rfl rfl
            exact ⟨unwanted_undef (ops := _) (j := 19) (b := true) rfl rfl rfl eg, rfl⟩
          · intro a W hR hoff hd
            right
            have eg : a.tmps.getD 29 undef = undef := hd 19 _ rfl rfl
            exact ⟨unwanted_undef (ops := _) (j := 19) (b := true) rfl rfl rfl eg, rfl⟩
          · intro a W hR hoff hd
            right
            have eg : a.tmps.getD 29 undef = undef := hd 19 _ rfl rfl
            exact ⟨unwanted_undef (ops := _) (j := 19) (b := true) rfl rfl rfl eg, rfl⟩
          · intro a W hR hoff hd
            right
            have eg : a.tmps.getD 29 undef = undef := hd 19 _ rfl rfl
            exact ⟨unwanted_undef (ops := _) (j := 19) (b := true) rfl rfl rfl eg, rfl⟩
          · intro a W hR hoff hd
            right
            have eg : a.tmps.getD 26 undef = .bool true := hd 16 _ rfl rfl
            exact ⟨unwanted_of (ops := _) (j := 16) (b := false) rfl rfl rfl (b2 := true) (by decide) eg, rfl⟩
          · intro a W hR hoff hd
            left
            refine ⟨rfl, ?_⟩
            have e0 : a.tmps.getD 26 undef = .bool true := hd 16 _ rfl rfl
            have e1 : a.tmps.getD 42 undef = undef := hd 32 _ rfl rfl
            go_simp
            exact ⟨_, rfl, rfl, Below.refl _ _⟩
        · intro a W hR hoff hd
          have e43 : a.tmps.getD 43 undef = .bool true := hd 33 _ rfl
          have HBW := Lib.hid (HB.out.trans ((und hR).mono HB.out.size))
          obtain ⟨ys, hys, ha⟩ := off_form hoff (mask := [false, false, false, false, false, false, false, false, false, false, true, true, true, true, true, true, true, true, true, true, true, true, true, true, true, true, true, true, true, true, true, true, true, true, true, true, true, true, true, true, true, true, true, true, false, false, false]) (by kernel_rfl)
          rw [hys] at e43
          subst ha
          clear hd hR
          simp only [fillFrom, Nat.zero_add, Nat.reduceAdd] at *
          rw [e43]
          clear e43 hys hoff
          rename_i hK
          refine hK _ _ ?_
          clear hK
          go_wp2_with fail
          go_ret
          exact ⟨by rw [HT.out]; rfl, HBW.out⟩
      | true =>
        rw [hnb] at HDN
        cases hmb : mayV ⟨k, m, s⟩ with
        | false =>
          rw [hmb] at HDM
          have HT : Hid (varsB l = false) := Lib.hid (by rw [HON.out, hnb, hmb]; simp)
          clear hnb hmb HON HPS hx
          go_wp2_with fail
          refine wp_region_steps (fun j v _ => v = dvF2 b o n c i 0 nm k m s ⟨#[]⟩ j) (belR wr.heap.size) (by kernel_rfl) (by kernel_rfl) (fun _ => Below.refl _ _) (fun _ _ _ h k => belR_trans h k) (fun _ _ _ _ h _ => h) ?_ ?_
          · refine ⟨?_, ?_, ?_, ?_, ?_, ?_, ?_, ?_, ?_, ?_, ?_, ?_, ?_, ?_, ?_, ?_, ?_, ?_, ?_, ?_, ?_, ?_, ?_, ?_, ?_, ?_, ?_, ?_, ?_, ?_, ?_, ?_, ?_, ?_, trivial⟩
            · intro a W hR hoff hd
              left
              refine ⟨rfl, ?_⟩
              have e0 : a.tmps.getD 0 undef = .slice (some ⟨b, o, none⟩) n c := hoff.slot 0 (no_dst (by kernel_rfl))
              go_simp
              exact ⟨_, rfl, rfl, Below.refl _ _⟩
            · intro a W hR hoff hd
              left
              refine ⟨rfl, ?_⟩
              have e0 : a.tmps.getD 3 undef = .int .i64 (i : Int) := hoff.slot 3 (no_dst (by kernel_rfl))
              go_simp
              exact ⟨_, rfl, rfl, Below.refl _ _⟩
            · intro a W hR hoff hd
              left
              refine ⟨rfl, ?_⟩
              have e0 : a.tmps.getD 10 undef = .slice (some ⟨b, o, none⟩) n c := hd 0 _ rfl rfl
              have e1 : a.tmps.getD 11 undef = .int .i64 (i : Int) := hd 1 _ rfl rfl
              go_simp
              exact ⟨_, rfl, rfl, Below.refl _ _⟩
            · intro a W hR hoff hd
              left
              refine ⟨rfl, ?_⟩
              have e0 : a.tmps.getD 12 undef = .pointer (some ⟨b, o + i * 4, none⟩) := hd 2 _ rfl rfl
              go_simp
              exact ⟨_, rfl, rfl, Below.refl _ _⟩
            · intro a W hR hoff hd
              left
              refine ⟨rfl, ?_⟩
              have e0 : a.tmps.getD 13 undef = .pointer (some ⟨b, o + i * 4, none⟩) := hd 3 _ rfl rfl
              have c0 := cell_in (und hR) HL1.out D0.out
              go_simp
              exact ⟨_, rfl, rfl, Below.refl _ _⟩
            · intro a W hR hoff hd
              left
              refine ⟨rfl, ?_⟩
              have e0 : a.tmps.getD 14 undef = .string nm := hd 4 _ rfl rfl
              go_simp
              refine (HDN.out W).mono ?_
              rintro e W2 ⟨rfl, rfl⟩
              exact ⟨_, rfl, rfl, Below.refl _ _⟩
            · intro a W hR hoff hd
              left
              refine ⟨rfl, ?_⟩
              have e0 : a.tmps.getD 15 undef = .bool true := hd 5 _ rfl rfl
              go_simp
              exact ⟨_, rfl, rfl, Below.refl _ _⟩
            · intro a W hR hoff hd
              left
              refine ⟨rfl, ?_⟩
              have e0 : a.tmps.getD 16 undef = .bool false := hd 6 _ rfl rfl
              go_simp
              exact ⟨_, rfl, rfl, Below.refl _ _⟩
            · intro a W hR hoff hd
              left
              have eg : a.tmps.getD 17 undef = .bool false := hd 7 _ rfl rfl
              refine ⟨wanted_of (ops := _) (j := 7) (b := false) rfl rfl rfl eg, ?_⟩
              clear eg
              have e0 : a.tmps.getD 0 undef = .slice (some ⟨b, o, none⟩) n c := hoff.slot 0 (no_dst (by kernel_rfl))
              go_simp
              exact ⟨_, rfl, rfl, Below.refl _ _⟩
            · intro a W hR hoff hd
              left
              have eg : a.tmps.getD 17 undef = .bool false := hd 7 _ rfl rfl
              refine ⟨wanted_of (ops := _) (j := 7) (b := false) rfl rfl rfl eg, ?_⟩
              clear eg
              have e0 : a.tmps.getD 3 undef = .int .i64 (i : Int) := hoff.slot 3 (no_dst (by kernel_rfl))
              go_simp
              exact ⟨_, rfl, rfl, Below.refl _ _⟩
            · intro a W hR hoff hd
              left
              have eg : a.tmps.getD 17 undef = .bool false := hd 7 _ rfl rfl
              refine ⟨wanted_of (ops := _) (j := 7) (b := false) rfl rfl rfl eg, ?_⟩
              clear eg
              have e0 : a.tmps.getD 18 undef = .slice (some ⟨b, o, none⟩) n c := hd 8 _ rfl rfl
              have e1 : a.tmps.getD 19 undef = .int .i64 (i : Int) := hd 9 _ rfl rfl
              go_simp
              exact ⟨_, rfl, rfl, Below.refl _ _⟩
            · intro a W hR hoff hd
              left
              have eg : a.tmps.getD 17 undef = .bool false := hd 7 _ rfl rfl
              refine ⟨wanted_of (ops := _) (j := 7) (b := false) rfl rfl rfl eg, ?_⟩
              clear eg
              have e0 : a.tmps.getD 20 undef = .pointer (some ⟨b, o + i * 4, none⟩) := hd 10 _ rfl rfl
              go_simp
              exact ⟨_, rfl, rfl, Below.refl _ _⟩
            · intro a W hR hoff hd
              left
              have eg : a.tmps.getD 17 undef = .bool false := hd 7 _ rfl rfl
              refine ⟨wanted_of (ops := _) (j := 7) (b := false) rfl rfl rfl eg, ?_⟩
              clear eg
              have e0 : a.tmps.getD 21 undef = .pointer (some ⟨b, o + i * 4 + 1, none⟩) := hd 11 _ rfl rfl
              have c0 := cell_in (und hR) HL1.out D1.out
              have c1 := cell_in (und hR) HL1.out D2.out
              have c2 := cell_in (und hR) HL1.out D3.out
              go_simp
              exact ⟨_, rfl, rfl, Below.refl _ _⟩
            · intro a W hR hoff hd
              left
              have eg : a.tmps.getD 17 undef = .bool false := hd 7 _ rfl rfl
              refine ⟨wanted_of (ops := _) (j := 7) (b := false) rfl rfl rfl eg, ?_⟩
              clear eg
              have e0 : a.tmps.getD 22 undef = .agg #[.int .i64 k, .int .i64 m, .string s] := hd 12 _ rfl rfl
              go_simp
              refine (HDM.out W).mono ?_
              rintro e W2 ⟨rfl, hb2⟩
              exact ⟨_, rfl, rfl, belR_of hR (Nat.le_refl _) hb2⟩
            · intro a W hR hoff hd
              left
              have eg : a.tmps.getD 17 undef = .bool false := hd 7 _ rfl rfl
              refine ⟨wanted_of (ops := _) (j := 7) (b := false) rfl rfl rfl eg, ?_⟩
              clear eg
              have e0 : a.tmps.getD 23 undef = .bool false := hd 13 _ rfl rfl
              go_simp
              exact ⟨_, rfl, rfl, Below.refl _ _⟩
            · intro a W hR hoff hd
              left
              refine ⟨rfl, ?_⟩
              have e0 : a.tmps.getD 17 undef = .bool false := hd 7 _ rfl rfl
              have e1 : a.tmps.getD 24 undef = .bool true := hd 14 _ rfl rfl
              go_simp
              exact ⟨_, rfl, rfl, Below.refl _ _⟩
            · intro a W hR hoff hd
              left
              refine ⟨rfl, ?_⟩
              have e0 : a.tmps.getD 25 undef = .bool true := hd 15 _ rfl rfl
              go_simp
              exact ⟨_, rfl, rfl, Below.refl _ _⟩
            · intro a W hR hoff hd
              right
              have eg : a.tmps.getD 26 undef = .bool true := hd 16 _ rfl rfl
              exact ⟨unwanted_of (ops := _) (j := 16) (b := false) rfl rfl rfl (b2 := true) (by decide) eg, rfl⟩
            · intro a W hR hoff hd
              right
              have eg : a.tmps.getD 26 undef = .bool true := hd 16 _ rfl rfl
              exact ⟨unwanted_of (ops := _) (j := 16) (b := false) rfl rfl rfl (b2 := true) (by decide) eg, rfl⟩
            · intro a W hR hoff hd
              right
              have eg : a.tmps.getD 26 undef = .bool true := hd 16 _ rfl rfl
              exact ⟨unwanted_of (ops := _) (j := 16) (b := false) rfl rfl rfl (b2 := true) (by decide) eg, rfl⟩
            · intro a W hR hoff hd
              right
              have eg : a.tmps.getD 29 undef = undef := hd 19 _ rfl rfl
              exact ⟨unwanted_undef (ops := _) (j := 19) (b := true) rfl rfl rfl eg, rfl⟩
            · intro a W hR hoff hd
              right
              have eg : a.tmps.getD 29 undef = undef := hd 19 _ rfl rfl
              exact ⟨unwanted_undef (ops := _) (j := 19) (b := true) rfl rfl rfl eg, rfl⟩
            · intro a W hR hoff hd
              right
              have eg : a.tmps.getD 29 undef = undef := hd 19 _ rfl rfl
              exact ⟨unwanted_undef (ops := _) (j := 19) (b := true) rfl rfl rfl eg, rfl⟩
            · intro a W hR hoff hd
              right
              have eg : a.tmps.getD 29 undef = undef := hd 19 _ rfl rfl
              exact ⟨unwanted_undef (ops := _) (j := 19) (b := true) rfl rfl rfl eg, rfl⟩
            · intro a W hR hoff hd
              right
              have eg : a.tmps.getD 29 undef = undef := hd 19 _ rfl rfl
              exact ⟨unwanted_undef (ops := _) (j := 19) (b := true) rfl rfl rfl eg, rfl⟩
            · intro a W hR hoff hd
              right
              have eg : a.tmps.getD 29 undef = undef := hd 19 _ rfl rfl
              exact ⟨unwanted_undef (ops := _) (j := 19) (b := true) rfl rfl rfl eg, rfl⟩
            · intro a W hR hoff hd
              right
              have eg : a.tmps.getD 29 undef = undef := hd 19 _ rfl rfl
              exact ⟨unwanted_undef (ops := _) (j := 19) (b := true) rfl rfl rfl eg, rfl⟩
            · intro a W hR hoff hd
              right
              have eg : a.tmps.getD 29 undef = undef := hd 19 _ rfl rfl
              exact ⟨unwanted_undef (ops := _) (j := 19) (b := true) rfl rfl rfl eg, rfl⟩
            · intro a W hR hoff hd
              right
              have eg : a.tmps.getD 29 undef = undef := hd 19 _ rfl rfl
              exact ⟨unwanted_undef (ops := _) (j := 19) (b := true) rfl rfl rfl eg, rfl⟩
            · intro a W hR hoff hd
              right
              have eg : a.tmps.getD 29 undef = undef := hd 19 _ rfl rfl
              exact ⟨unwanted_undef (ops := _) (j := 19) (b := true) rfl rfl rfl eg, rfl⟩
            · intro a W hR hoff hd
              right
              have eg : a.tmps.getD 29 undef = undef := hd 19 _ rfl rfl
              exact ⟨unwanted_undef (ops := _) (j := 19) (b := true) rfl rfl rfl eg, rfl⟩
            · intro a W hR hoff hd
              right
              have eg : a.tmps.getD 29 undef = undef := hd 19 _ rfl rfl
              exact ⟨unwanted_undef (ops := _) (j := 19) (b := true) rfl rfl rfl eg, rfl⟩
            · intro a W hR hoff hd
              right
              have eg : a.tmps.getD 26 undef = .bool true := hd 16 _ rfl rfl
              exact ⟨unwanted_of (ops := _) (j := 16) (b := false) rfl rfl rfl (b2 := true) (by decide) eg, rfl⟩
            · intro a W hR hoff hd
              left
              refine ⟨rfl, ?_⟩
              have e0 : a.tmps.getD 26 undef = .bool true := hd 16 _ rfl rfl
              have e1 : a.tmps.getD 42 undef = undef := hd 32 _ rfl rfl
              go_simp
              exact ⟨_, rfl, rfl, Below.refl _ _⟩
          · intro a W hR hoff hd
            have e43 : a.tmps.getD 43 undef = .bool true := hd 33 _ rfl
            have HBW := Lib.hid (HB.out.trans ((und hR).mono HB.out.size))
            obtain ⟨ys, hys, ha⟩ := off_form hoff (mask := [false, false, false, false, false, false, false, false, false, false, true, true, true, true, true, true, true, true, true, true, true, true, true, true, true, true, true, true, true, true, true, true, true, true, true, true, true, true, true, true, true, true, true, true, false, false, false]) (by kernel_rfl)
            rw [hys] at e43
            subst ha
            clear hd hR
            simp only [fillFrom, Nat.zero_add, Nat.reduceAdd] at *
            rw [e43]
            clear e43 hys hoff
            rename_i hK
            refine hK _ _ ?_
            clear hK
            go_wp2_with fail
            go_ret
            exact ⟨by rw [HT.out]; rfl, HBW.out⟩
        | true =>
          rw [hmb] at HDM
          by_cases hi0 : i = 0
          · have HN : Hid (varsB l = (decide (l.length ≤ 16) && vsF (prevN l (i + 1)) (l.drop (i + 1)))) := Lib.hid (by subst hi0; rw [HON.out, hnb, hmb]; rfl)
            have hi1 : decide ((0 : Int) < (i : Int)) = false := decide_eq_false (by omega)
            have hi2 : decide (0 < i) = false := decide_eq_false (by omega)
            have HI0 := Lib.hid hi0
            clear hnb hmb HON HPS hx hi0
            go_wp2_with fail
            refine wp_region_steps (fun j v _ => v = dvF3 b o n c i 0 nm k m s ⟨#[]⟩ j) (belR wr.heap.size) (by kernel_rfl) (by kernel_rfl) (fun _ => Below.refl _ _) (fun _ _ _ h k => belR_trans h k) (fun _ _ _ _ h _ => h) ?_ ?_
            · refine ⟨?_, ?_, ?_, ?_, ?_, ?_, ?_, ?_, ?_, ?_, ?_, ?_, ?_, ?_, ?_, ?_, ?_, ?_, ?_, ?_, ?_, ?_, ?_, ?_, ?_, ?_, ?_, ?_, ?_, ?_, ?_, ?_, ?_, ?_, trivial⟩
              · intro a W hR hoff hd
                left
                refine ⟨rfl, ?_⟩
                have e0 : a.tmps.getD 0 undef = .slice (some ⟨b, o, none⟩) n c := hoff.slot 0 (no_dst (by kernel_rfl))
                go_simp
                exact ⟨_, rfl, rfl, Below.refl _ _⟩
              · intro a W hR hoff hd
                left
                refine ⟨rfl, ?_⟩
                have e0 : a.tmps.getD 3 undef = .int .i64 (i : Int) := hoff.slot 3 (no_dst (by kernel_rfl))
                go_simp
                exact ⟨_, rfl, rfl, Below.refl _ _⟩
              · intro a W hR hoff hd
                left
                refine ⟨rfl, ?_⟩
                have e0 : a.tmps.getD 10 undef = .slice (some ⟨b, o, none⟩) n c := hd 0 _ rfl rfl
                have e1 : a.tmps.getD 11 undef = .int .i64 (i : Int) := hd 1 _ rfl rfl
                go_simp
                exact ⟨_, rfl, rfl, Below.refl _ _⟩
              · intro a W hR hoff hd
                left
                refine ⟨rfl, ?_⟩
                have e0 : a.tmps.getD 12 undef = .pointer (some ⟨b, o + i * 4, none⟩) := hd 2 _ rfl rfl
                go_simp
                exact ⟨_, rfl, rfl, Below.refl _ _⟩
              · intro a W hR hoff hd
                left
                refine ⟨rfl, ?_⟩
                have e0 : a.tmps.getD 13 undef = .pointer (some ⟨b, o + i * 4, none⟩) := hd 3 _ rfl rfl
                have c0 := cell_in (und hR) HL1.out D0.out
                go_simp
                exact ⟨_, rfl, rfl, Below.refl _ _⟩
              · intro a W hR hoff hd
                left
                refine ⟨rfl, ?_⟩
                have e0 : a.tmps.getD 14 undef = .string nm := hd 4 _ rfl rfl
                go_simp
                refine (HDN.out W).mono ?_
                rintro e W2 ⟨rfl, rfl⟩
                exact ⟨_, rfl, rfl, Below.refl _ _⟩
              · intro a W hR hoff hd
                left
                refine ⟨rfl, ?_⟩
                have e0 : a.tmps.getD 15 undef = .bool true := hd 5 _ rfl rfl
                go_simp
                exact ⟨_, rfl, rfl, Below.refl _ _⟩
              · intro a W hR hoff hd
                left
                refine ⟨rfl, ?_⟩
                have e0 : a.tmps.getD 16 undef = .bool false := hd 6 _ rfl rfl
                go_simp
                exact ⟨_, rfl, rfl, Below.refl _ _⟩
              · intro a W hR hoff hd
                left
                have eg : a.tmps.getD 17 undef = .bool false := hd 7 _ rfl rfl
                refine ⟨wanted_of (ops := _) (j := 7) (b := false) rfl rfl rfl eg, ?_⟩
                clear eg
                have e0 : a.tmps.getD 0 undef = .slice (some ⟨b, o, none⟩) n c := hoff.slot 0 (no_dst (by kernel_rfl))
                go_simp
                exact ⟨_, rfl, rfl, Below.refl _ _⟩
              · intro a W hR hoff hd
                left
                have eg : a.tmps.getD 17 undef = .bool false := hd 7 _ rfl rfl
                refine ⟨wanted_of (ops := _) (j := 7) (b := false) rfl rfl rfl eg, ?_⟩
                clear eg
                have e0 : a.tmps.getD 3 undef = .int .i64 (i : Int) := hoff.slot 3 (no_dst (by kernel_rfl))
                go_simp
                exact ⟨_, rfl, rfl, Below.refl _ _⟩
              · intro a W hR hoff hd
                left
                have eg : a.tmps.getD 17 undef = .bool false := hd 7 _ rfl rfl
                refine ⟨wanted_of (ops := _) (j := 7) (b := false) rfl rfl rfl eg, ?_⟩
                clear eg
                have e0 : a.tmps.getD 18 undef = .slice (some ⟨b, o, none⟩) n c := hd 8 _ rfl rfl
                have e1 : a.tmps.getD 19 undef = .int .i64 (i : Int) := hd 9 _ rfl rfl
                go_simp
                exact ⟨_, rfl, rfl, Below.refl _ _⟩
              · intro a W hR hoff hd
                left
                have eg : a.tmps.getD 17 undef = .bool false := hd 7 _ rfl rfl
                refine ⟨wanted_of (ops := _) (j := 7) (b := false) rfl rfl rfl eg, ?_⟩
                clear eg
                have e0 : a.tmps.getD 20 undef = .pointer (some ⟨b, o + i * 4, none⟩) := hd 10 _ rfl rfl
                go_simp
                exact ⟨_, rfl, rfl, Below.refl _ _⟩
              · intro a W hR hoff hd
                left
                have eg : a.tmps.getD 17 undef = .bool false := hd 7 _ rfl rfl
                refine ⟨wanted_of (ops := _) (j := 7) (b := false) rfl rfl rfl eg, ?_⟩
                clear eg
                have e0 : a.tmps.getD 21 undef = .pointer (some ⟨b, o + i * 4 + 1, none⟩) := hd 11 _ rfl rfl
                have c0 := cell_in (und hR) HL1.out D1.out
                have c1 := cell_in (und hR) HL1.out D2.out
                have c2 := cell_in (und hR) HL1.out D3.out
                go_simp
                exact ⟨_, rfl, rfl, Below.refl _ _⟩
              · intro a W hR hoff hd
                left
                have eg : a.tmps.getD 17 undef = .bool false := hd 7 _ rfl rfl
                refine ⟨wanted_of (ops := _) (j := 7) (b := false) rfl rfl rfl eg, ?_⟩
                clear eg
                have e0 : a.tmps.getD 22 undef = .agg #[.int .i64 k, .int .i64 m, .string s] := hd 12 _ rfl rfl
                go_simp
                refine (HDM.out W).mono ?_
                rintro e W2 ⟨rfl, hb2⟩
                exact ⟨_, rfl, rfl, belR_of hR (Nat.le_refl _) hb2⟩
              · intro a W hR hoff hd
                left
                have eg : a.tmps.getD 17 undef = .bool false := hd 7 _ rfl rfl
                refine ⟨wanted_of (ops := _) (j := 7) (b := false) rfl rfl rfl eg, ?_⟩
                clear eg
                have e0 : a.tmps.getD 23 undef = .bool true := hd 13 _ rfl rfl
                go_simp
                exact ⟨_, rfl, rfl, Below.refl _ _⟩
              · intro a W hR hoff hd
                left
                refine ⟨rfl, ?_⟩
                have e0 : a.tmps.getD 17 undef = .bool false := hd 7 _ rfl rfl
                have e1 : a.tmps.getD 24 undef = .bool false := hd 14 _ rfl rfl
                go_simp
                exact ⟨_, rfl, rfl, Below.refl _ _⟩
              · intro a W hR hoff hd
                left
                refine ⟨rfl, ?_⟩
                have e0 : a.tmps.getD 25 undef = .bool false := hd 15 _ rfl rfl
                go_simp
                exact ⟨_, rfl, rfl, Below.refl _ _⟩
              · intro a W hR hoff hd
                left
                have eg : a.tmps.getD 26 undef = .bool false := hd 16 _ rfl rfl
                refine ⟨wanted_of (ops := _) (j := 16) (b := false) rfl rfl rfl eg, ?_⟩
                clear eg
                have e0 : a.tmps.getD 3 undef = .int .i64 (i : Int) := hoff.slot 3 (no_dst (by kernel_rfl))
                go_simp
                exact ⟨_, rfl, rfl, Below.refl _ _⟩
              · intro a W hR hoff hd
                left
                have eg : a.tmps.getD 26 undef = .bool false := hd 16 _ rfl rfl
                refine ⟨wanted_of (ops := _) (j := 16) (b := false) rfl rfl rfl eg, ?_⟩
                clear eg
                have e0 : a.tmps.getD 27 undef = .int .i64 (i : Int) := hd 17 _ rfl rfl
                go_simp
                first | exact ⟨_, rfl, rfl, Below.refl _ _⟩ | exact ⟨_, rfl, congrArg Value.bool (by assumption), Below.refl _ _⟩
              · intro a W hR hoff hd
                left
                have eg : a.tmps.getD 26 undef = .bool false := hd 16 _ rfl rfl
                refine ⟨wanted_of (ops := _) (j := 16) (b := false) rfl rfl rfl eg, ?_⟩
                clear eg
                have e0 : a.tmps.getD 28 undef = .bool false := hd 18 _ rfl rfl
                go_simp
                exact ⟨_, rfl, rfl, Below.refl _ _⟩
              · intro a W hR hoff hd
                right
                have eg : a.tmps.getD 29 undef = .bool false := hd 19 _ rfl rfl
                exact ⟨unwanted_of (ops := _) (j := 19) (b := true) rfl rfl rfl (b2 := false) (by decide) eg, rfl⟩
              · intro a W hR hoff hd
                right
                have eg : a.tmps.getD 29 undef = .bool false := hd 19 _ rfl rfl
                exact ⟨unwanted_of (ops := _) (j := 19) (b := true) rfl rfl rfl (b2 := false) (by decide) eg, rfl⟩
              · intro a W hR hoff hd
                right
                have eg : a.tmps.getD 29 undef = .bool false := hd 19 _ rfl rfl
                exact ⟨unwanted_of (ops := _) (j := 19) (b := true) rfl rfl rfl (b2 := false) (by decide) eg, rfl⟩
              · intro a W hR hoff hd
                right
                have eg : a.tmps.getD 29 undef = .bool false := hd 19 _ rfl rfl
                exact ⟨unwanted_of (ops := _) (j := 19) (b := true) rfl rfl rfl (b2 := false) (by decide) eg, rfl⟩
              · intro a W hR hoff hd
                right
                have eg : a.tmps.getD 29 undef = .bool false := hd 19 _ rfl rfl
                exact ⟨unwanted_of (ops := _) (j := 19) (b := true) rfl rfl rfl (b2 := false) (by decide) eg, rfl⟩
              · intro a W hR hoff hd
                right
                have eg : a.tmps.getD 29 undef = .bool false := hd 19 _ rfl rfl
                exact ⟨unwanted_of (ops := _) (j := 19) (b := true) rfl rfl rfl (b2 := false) (by decide) eg, rfl⟩
              · intro a W hR hoff hd
                right
                have eg : a.tmps.getD 29 undef = .bool false := hd 19 _ rfl rfl
                exact ⟨unwanted_of (ops := _) (j := 19) (b := true) rfl rfl rfl (b2 := false) (by decide) eg, rfl⟩
              · intro a W hR hoff hd
                right
                have eg : a.tmps.getD 29 undef = .bool false := hd 19 _ rfl rfl
                exact ⟨unwanted_of (ops := _) (j := 19) (b := true) rfl rfl rfl (b2 := false) (by decide) eg, rfl⟩
              · intro a W hR hoff hd
                right
                have eg : a.tmps.getD 29 undef = .bool false := hd 19 _ rfl rfl
                exact ⟨unwanted_of (ops := _) (j := 19) (b := true) rfl rfl rfl (b2 := false) (by decide) eg, rfl⟩
              · intro a W hR hoff hd
                right
                have eg : a.tmps.getD 29 undef = .bool false := hd 19 _ rfl rfl
                exact ⟨unwanted_of (ops := _) (j := 19) (b := true) rfl rfl rfl (b2 := false) (by decide) eg, rfl⟩
              · intro a W hR hoff hd
                right
                have eg : a.tmps.getD 29 undef = .bool false := hd 19 _ rfl rfl
                exact ⟨unwanted_of (ops := _) (j := 19) (b := true) rfl rfl rfl (b2 := false) (by decide) eg, rfl⟩
              · intro a W hR hoff hd
                right
                have eg : a.tmps.getD 29 undef = .bool false := hd 19 _ rfl rfl
                exact ⟨unwanted_of (ops := _) (j := 19) (b := true) rfl rfl rfl (b2 := false) (by decide) eg, rfl⟩
              · intro a W hR hoff hd
                left
                have eg : a.tmps.getD 26 undef = .bool false := hd 16 _ rfl rfl
                refine ⟨wanted_of (ops := _) (j := 16) (b := false) rfl rfl rfl eg, ?_⟩
                clear eg
                have e0 : a.tmps.getD 29 undef = .bool false := hd 19 _ rfl rfl
                have e1 : a.tmps.getD 41 undef = undef := hd 31 _ rfl rfl
                go_simp
                exact ⟨_, rfl, rfl, Below.refl _ _⟩
              · intro a W hR hoff hd
                left
                refine ⟨rfl, ?_⟩
                have e0 : a.tmps.getD 26 undef = .bool false := hd 16 _ rfl rfl
                have e1 : a.tmps.getD 42 undef = .bool false := hd 32 _ rfl rfl
                go_simp
                exact ⟨_, rfl, rfl, Below.refl _ _⟩
            · intro a W hR hoff hd
              have e43 : a.tmps.getD 43 undef = .bool false := hd 33 _ rfl
              have HBW := Lib.hid (HB.out.trans ((und hR).mono HB.out.size))
              obtain ⟨ys, hys, ha⟩ := off_form hoff (mask := [false, false, false, false, false, false, false, false, false, false, true, true, true, true, true, true, true, true, true, true, true, true, true, true, true, true, true, true, true, true, true, true, true, true, true, true, true, true, true, true, true, true, true, true, false, false, false]) (by kernel_rfl)
              rw [hys] at e43
              subst ha
              clear hd hR
              simp only [fillFrom, Nat.zero_add, Nat.reduceAdd] at *
              rw [e43]
              clear e43 hys hoff
              rename_i hK
              refine hK _ _ ?_
              clear hK
              go_wp2_with fail
              go_roundg (n - (i + 1))
              case measure => omega
              case rel => exact ⟨i + 1, by go_num, by omega, Nat.le_refl _, HN, HBW⟩
          · obtain ⟨q, hqi⟩ : ∃ q, i = q + 1 := ⟨i - 1, by omega⟩
            have HP := Lib.hid (HPS.out (by omega))
            have hq : q < l.length := by omega
            have hq1 : (0 : Int) ≤ (q : Int) := by omega
            have hq2 : (q : Int) < (n : Int) := by omega
            have hq3 : q < n := by omega
            have hi1 : decide ((0 : Int) < (i : Int)) = true := decide_eq_true (by omega)
            have hi2 : decide (0 < i) = true := decide_eq_true (by omega)
            have hwq : IntKind.i64.wrap ((i : Int) - 1) = (q : Int) := by rw [IntKind.wrap_i64]; omega
            obtain ⟨b', o', hbo, _, p0, _⟩ := HH.out.elem q hq
            obtain ⟨rfl, rfl⟩ : b = b' ∧ o = o' := by injection hbo with e; injection e with e1 e2 e3; exact ⟨e1, e2⟩
            have P0 := Lib.hid ((HB.out.cell (p := ⟨b, o + q * 4, none⟩) hlt).trans p0)
            clear hbo p0
            have hpr : (l[i - 1]'(by omega)) = l[q] := by congr 1; omega
            rw [hpr] at HP
            generalize l[q].nm = pn at *
            have HQI := Lib.hid hqi
            clear hpr hqi hi0
            cases hb : bl pn nm with
            | true =>
              have HN : Hid (varsB l = (decide (l.length ≤ 16) && vsF (prevN l (i + 1)) (l.drop (i + 1)))) := Lib.hid (by rw [HON.out, hnb, hmb, HP.out]; simp only [hb, Bool.true_and])
              have hle : (Op.bytesLess nm.toList pn.toList || nm.toList == pn.toList) = false := by rw [leq_not, hb]; rfl
              clear hnb hmb HON HP HPS hx hb
              go_wp2_with fail
              refine wp_region_steps (fun j v _ => v = dvF4 b o n c i q nm k m s pn j) (belR wr.heap.size) (by kernel_rfl) (by kernel_rfl) (fun _ => Below.refl _ _) (fun _ _ _ h k => belR_trans h k) (fun _ _ _ _ h _ => h) ?_ ?_
              · refine ⟨?_, ?_, ?_, ?_, ?_, ?_, ?_, ?_, ?_, ?_, ?_, ?_, ?_, ?_, ?_, ?_, ?_, ?_, ?_, ?_, ?_, ?_, ?_, ?_, ?_, ?_, ?_, ?_, ?_, ?_, ?_, ?_, ?_, ?_, trivial⟩
                · intro a W hR hoff hd
                  left
                  refine ⟨rfl, ?_⟩
                  have e0 : a.tmps.getD 0 undef = .slice (some ⟨b, o, none⟩) n c := hoff.slot 0 (no_dst (by kernel_rfl))
                  go_simp
                  exact ⟨_, rfl, rfl, Below.refl _ _⟩
                · intro a W hR hoff hd
                  left
                  refine ⟨rfl, ?_⟩
                  have e0 : a.tmps.getD 3 undef = .int .i64 (i : Int) := hoff.slot 3 (no_dst (by kernel_rfl))
                  go_simp
                  exact ⟨_, rfl, rfl, Below.refl _ _⟩
                · intro a W hR hoff hd
                  left
                  refine ⟨rfl, ?_⟩
                  have e0 : a.tmps.getD 10 undef = .slice (some ⟨b, o, none⟩) n c := hd 0 _ rfl rfl
                  have e1 : a.tmps.getD 11 undef = .int .i64 (i : Int) := hd 1 _ rfl rfl
                  go_simp
                  exact ⟨_, rfl, rfl, Below.refl _ _⟩
                · intro a W hR hoff hd
                  left
                  refine ⟨rfl, ?_⟩
                  have e0 : a.tmps.getD 12 undef = .pointer (some ⟨b, o + i * 4, none⟩) := hd 2 _ rfl rfl
                  go_simp
                  exact ⟨_, rfl, rfl, Below.refl _ _⟩
                · intro a W hR hoff hd
                  left
                  refine ⟨rfl, ?_⟩
                  have e0 : a.tmps.getD 13 undef = .pointer (some ⟨b, o + i * 4, none⟩) := hd 3 _ rfl rfl
                  have c0 := cell_in (und hR) HL1.out D0.out
                  go_simp
                  exact ⟨_, rfl, rfl, Below.refl _ _⟩
                · intro a W hR hoff hd
                  left
                  refine ⟨rfl, ?_⟩
                  have e0 : a.tmps.getD 14 undef = .string nm := hd 4 _ rfl rfl
                  go_simp
                  refine (HDN.out W).mono ?_
                  rintro e W2 ⟨rfl, rfl⟩
                  exact ⟨_, rfl, rfl, Below.refl _ _⟩
                · intro a W hR hoff hd
                  left
                  refine ⟨rfl, ?_⟩
                  have e0 : a.tmps.getD 15 undef = .bool true := hd 5 _ rfl rfl
                  go_simp
                  exact ⟨_, rfl, rfl, Below.refl _ _⟩
                · intro a W hR hoff hd
                  left
                  refine ⟨rfl, ?_⟩
                  have e0 : a.tmps.getD 16 undef = .bool false := hd 6 _ rfl rfl
                  go_simp
                  exact ⟨_, rfl, rfl, Below.refl _ _⟩
                · intro a W hR hoff hd
                  left
                  have eg : a.tmps.getD 17 undef = .bool false := hd 7 _ rfl rfl
                  refine ⟨wanted_of (ops := _) (j := 7) (b := false) rfl rfl rfl eg, ?_⟩
                  clear eg
                  have e0 : a.tmps.getD 0 undef = .slice (some ⟨b, o, none⟩) n c := hoff.slot 0 (no_dst (by kernel_rfl))
                  go_simp
                  exact ⟨_, rfl, rfl, Below.refl _ _⟩
                · intro a W hR hoff hd
                  left
                  have eg : a.tmps.getD 17 undef = .bool false := hd 7 _ rfl rfl
                  refine ⟨wanted_of (ops := _) (j := 7) (b := false) rfl rfl rfl eg, ?_⟩
                  clear eg
                  have e0 : a.tmps.getD 3 undef = .int .i64 (i : Int) := hoff.slot 3 (no_dst (by kernel_rfl))
                  go_simp
                  exact ⟨_, rfl, rfl, Below.refl _ _⟩
                · intro a W hR hoff hd
                  left
                  have eg : a.tmps.getD 17 undef = .bool false := hd 7 _ rfl rfl
                  refine ⟨wanted_of (ops := _) (j := 7) (b := false) rfl rfl rfl eg, ?_⟩
                  clear eg
                  have e0 : a.tmps.getD 18 undef = .slice (some ⟨b, o, none⟩) n c := hd 8 _ rfl rfl
                  have e1 : a.tmps.getD 19 undef = .int .i64 (i : Int) := hd 9 _ rfl rfl
                  go_simp
                  exact ⟨_, rfl, rfl, Below.refl _ _⟩
                · intro a W hR hoff hd
                  left
                  have eg : a.tmps.getD 17 undef = .bool false := hd 7 _ rfl rfl
                  refine ⟨wanted_of (ops := _) (j := 7) (b := false) rfl rfl rfl eg, ?_⟩
                  clear eg
                  have e0 : a.tmps.getD 20 undef = .pointer (some ⟨b, o + i * 4, none⟩) := hd 10 _ rfl rfl
                  go_simp
                  exact ⟨_, rfl, rfl, Below.refl _ _⟩
                · intro a W hR hoff hd
                  left
                  have eg : a.tmps.getD 17 undef = .bool false := hd 7 _ rfl rfl
                  refine ⟨wanted_of (ops := _) (j := 7) (b := false) rfl rfl rfl eg, ?_⟩
                  clear eg
                  have e0 : a.tmps.getD 21 undef = .pointer (some ⟨b, o + i * 4 + 1, none⟩) := hd 11 _ rfl rfl
                  have c0 := cell_in (und hR) HL1.out D1.out
                  have c1 := cell_in (und hR) HL1.out D2.out
                  have c2 := cell_in (und hR) HL1.out D3.out
                  go_simp
                  exact ⟨_, rfl, rfl, Below.refl _ _⟩
                · intro a W hR hoff hd
                  left
                  have eg : a.tmps.getD 17 undef = .bool false := hd 7 _ rfl rfl
                  refine ⟨wanted_of (ops := _) (j := 7) (b := false) rfl rfl rfl eg, ?_⟩
                  clear eg
                  have e0 : a.tmps.getD 22 undef = .agg #[.int .i64 k, .int .i64 m, .string s] := hd 12 _ rfl rfl
                  go_simp
                  refine (HDM.out W).mono ?_
                  rintro e W2 ⟨rfl, hb2⟩
                  exact ⟨_, rfl, rfl, belR_of hR (Nat.le_refl _) hb2⟩
                · intro a W hR hoff hd
                  left
                  have eg : a.tmps.getD 17 undef = .bool false := hd 7 _ rfl rfl
                  refine ⟨wanted_of (ops := _) (j := 7) (b := false) rfl rfl rfl eg, ?_⟩
                  clear eg
                  have e0 : a.tmps.getD 23 undef = .bool true := hd 13 _ rfl rfl
                  go_simp
                  exact ⟨_, rfl, rfl, Below.refl _ _⟩
                · intro a W hR hoff hd
                  left
                  refine ⟨rfl, ?_⟩
                  have e0 : a.tmps.getD 17 undef = .bool false := hd 7 _ rfl rfl
                  have e1 : a.tmps.getD 24 undef = .bool false := hd 14 _ rfl rfl
                  go_simp
                  exact ⟨_, rfl, rfl, Below.refl _ _⟩
                · intro a W hR hoff hd
                  left
                  refine ⟨rfl, ?_⟩
                  have e0 : a.tmps.getD 25 undef = .bool false := hd 15 _ rfl rfl
                  go_simp
                  exact ⟨_, rfl, rfl, Below.refl _ _⟩
                · intro a W hR hoff hd
                  left
                  have eg : a.tmps.getD 26 undef = .bool false := hd 16 _ rfl rfl
                  refine ⟨wanted_of (ops := _) (j := 16) (b := false) rfl rfl rfl eg, ?_⟩
                  clear eg
                  have e0 : a.tmps.getD 3 undef = .int .i64 (i : Int) := hoff.slot 3 (no_dst (by kernel_rfl))
                  go_simp
                  exact ⟨_, rfl, rfl, Below.refl _ _⟩
                · intro a W hR hoff hd
                  left
                  have eg : a.tmps.getD 26 undef = .bool false := hd 16 _ rfl rfl
                  refine ⟨wanted_of (ops := _) (j := 16) (b := false) rfl rfl rfl eg, ?_⟩
                  clear eg
                  have e0 : a.tmps.getD 27 undef = .int .i64 (i : Int) := hd 17 _ rfl rfl
                  go_simp
                  first | exact ⟨_, rfl, rfl, Below.refl _ _⟩ | exact ⟨_, rfl, congrArg Value.bool (by assumption), Below.refl _ _⟩
                · intro a W hR hoff hd
                  left
                  have eg : a.tmps.getD 26 undef = .bool false := hd 16 _ rfl rfl
                  refine ⟨wanted_of (ops := _) (j := 16) (b := false) rfl rfl rfl eg, ?_⟩
                  clear eg
                  have e0 : a.tmps.getD 28 undef = .bool true := hd 18 _ rfl rfl
                  go_simp
                  exact ⟨_, rfl, rfl, Below.refl _ _⟩
                · intro a W hR hoff hd
                  left
                  have eg : a.tmps.getD 29 undef = .bool true := hd 19 _ rfl rfl
                  refine ⟨wanted_of (ops := _) (j := 19) (b := true) rfl rfl rfl eg, ?_⟩
                  clear eg
                  have e0 : a.tmps.getD 0 undef = .slice (some ⟨b, o, none⟩) n c := hoff.slot 0 (no_dst (by kernel_rfl))
                  go_simp
                  exact ⟨_, rfl, rfl, Below.refl _ _⟩
                · intro a W hR hoff hd
                  left
                  have eg : a.tmps.getD 29 undef = .bool true := hd 19 _ rfl rfl
                  refine ⟨wanted_of (ops := _) (j := 19) (b := true) rfl rfl rfl eg, ?_⟩
                  clear eg
                  have e0 : a.tmps.getD 3 undef = .int .i64 (i : Int) := hoff.slot 3 (no_dst (by kernel_rfl))
                  go_simp
                  exact ⟨_, rfl, rfl, Below.refl _ _⟩
                · intro a W hR hoff hd
                  left
                  have eg : a.tmps.getD 29 undef = .bool true := hd 19 _ rfl rfl
                  refine ⟨wanted_of (ops := _) (j := 19) (b := true) rfl rfl rfl eg, ?_⟩
                  clear eg
                  have e0 : a.tmps.getD 30 undef = .slice (some ⟨b, o, none⟩) n c := hd 20 _ rfl rfl
                  have e1 : a.tmps.getD 31 undef = .int .i64 (i : Int) := hd 21 _ rfl rfl
                  go_simp
                  exact ⟨_, rfl, rfl, Below.refl _ _⟩
                · intro a W hR hoff hd
                  left
                  have eg : a.tmps.getD 29 undef = .bool true := hd 19 _ rfl rfl
                  refine ⟨wanted_of (ops := _) (j := 19) (b := true) rfl rfl rfl eg, ?_⟩
                  clear eg
                  have e0 : a.tmps.getD 32 undef = .pointer (some ⟨b, o + i * 4, none⟩) := hd 22 _ rfl rfl
                  go_simp
                  exact ⟨_, rfl, rfl, Below.refl _ _⟩
                · intro a W hR hoff hd
                  left
                  have eg : a.tmps.getD 29 undef = .bool true := hd 19 _ rfl rfl
                  refine ⟨wanted_of (ops := _) (j := 19) (b := true) rfl rfl rfl eg, ?_⟩
                  clear eg
                  have e0 : a.tmps.getD 33 undef = .pointer (some ⟨b, o + i * 4, none⟩) := hd 23 _ rfl rfl
                  have c0 := cell_in (und hR) HL1.out D0.out
                  go_simp
                  exact ⟨_, rfl, rfl, Below.refl _ _⟩
                · intro a W hR hoff hd
                  left
                  have eg : a.tmps.getD 29 undef = .bool true := hd 19 _ rfl rfl
                  refine ⟨wanted_of (ops := _) (j := 19) (b := true) rfl rfl rfl eg, ?_⟩
                  clear eg
                  have e0 : a.tmps.getD 0 undef = .slice (some ⟨b, o, none⟩) n c := hoff.slot 0 (no_dst (by kernel_rfl))
                  go_simp
                  exact ⟨_, rfl, rfl, Below.refl _ _⟩
                · intro a W hR hoff hd
                  left
                  have eg : a.tmps.getD 29 undef = .bool true := hd 19 _ rfl rfl
                  refine ⟨wanted_of (ops := _) (j := 19) (b := true) rfl rfl rfl eg, ?_⟩
                  clear eg
                  have e0 : a.tmps.getD 3 undef = .int .i64 (i : Int) := hoff.slot 3 (no_dst (by kernel_rfl))
                  go_simp
                  exact ⟨_, rfl, rfl, Below.refl _ _⟩
                · intro a W hR hoff hd
                  left
                  have eg : a.tmps.getD 29 undef = .bool true := hd 19 _ rfl rfl
                  refine ⟨wanted_of (ops := _) (j := 19) (b := true) rfl rfl rfl eg, ?_⟩
                  clear eg
                  have e0 : a.tmps.getD 36 undef = .int .i64 (i : Int) := hd 26 _ rfl rfl
                  go_simp
                  first | exact ⟨_, rfl, rfl, Below.refl _ _⟩ | exact ⟨_, rfl, congrArg Value.bool (by assumption), Below.refl _ _⟩
                · intro a W hR hoff hd
                  left
                  have eg : a.tmps.getD 29 undef = .bool true := hd 19 _ rfl rfl
                  refine ⟨wanted_of (ops := _) (j := 19) (b := true) rfl rfl rfl eg, ?_⟩
                  clear eg
                  have e0 : a.tmps.getD 35 undef = .slice (some ⟨b, o, none⟩) n c := hd 25 _ rfl rfl
                  have e1 : a.tmps.getD 37 undef = .int .i64 (q : Int) := hd 27 _ rfl rfl
                  go_simp
                  exact ⟨_, rfl, rfl, Below.refl _ _⟩
                · intro a W hR hoff hd
                  left
                  have eg : a.tmps.getD 29 undef = .bool true := hd 19 _ rfl rfl
                  refine ⟨wanted_of (ops := _) (j := 19) (b := true) rfl rfl rfl eg, ?_⟩
                  clear eg
                  have e0 : a.tmps.getD 38 undef = .pointer (some ⟨b, o + q * 4, none⟩) := hd 28 _ rfl rfl
                  go_simp
                  exact ⟨_, rfl, rfl, Below.refl _ _⟩
                · intro a W hR hoff hd
                  left
                  have eg : a.tmps.getD 29 undef = .bool true := hd 19 _ rfl rfl
                  refine ⟨wanted_of (ops := _) (j := 19) (b := true) rfl rfl rfl eg, ?_⟩
                  clear eg
                  have e0 : a.tmps.getD 39 undef = .pointer (some ⟨b, o + q * 4, none⟩) := hd 29 _ rfl rfl
                  have c0 := cell_in (und hR) HL1.out P0.out
                  go_simp
                  exact ⟨_, rfl, rfl, Below.refl _ _⟩
                · intro a W hR hoff hd
                  left
                  have eg : a.tmps.getD 29 undef = .bool true := hd 19 _ rfl rfl
                  refine ⟨wanted_of (ops := _) (j := 19) (b := true) rfl rfl rfl eg, ?_⟩
                  clear eg
                  have e0 : a.tmps.getD 34 undef = .string nm := hd 24 _ rfl rfl
                  have e1 : a.tmps.getD 40 undef = .string pn := hd 30 _ rfl rfl
                  go_simp
                  first | exact ⟨_, rfl, rfl, Below.refl _ _⟩ | exact ⟨_, rfl, congrArg Value.bool (by assumption), Below.refl _ _⟩
                · intro a W hR hoff hd
                  left
                  have eg : a.tmps.getD 26 undef = .bool false := hd 16 _ rfl rfl
                  refine ⟨wanted_of (ops := _) (j := 16) (b := false) rfl rfl rfl eg, ?_⟩
                  clear eg
                  have e0 : a.tmps.getD 29 undef = .bool true := hd 19 _ rfl rfl
                  have e1 : a.tmps.getD 41 undef = .bool false := hd 31 _ rfl rfl
                  go_simp
                  exact ⟨_, rfl, rfl, Below.refl _ _⟩
                · intro a W hR hoff hd
                  left
                  refine ⟨rfl, ?_⟩
                  have e0 : a.tmps.getD 26 undef = .bool false := hd 16 _ rfl rfl
                  have e1 : a.tmps.getD 42 undef = .bool false := hd 32 _ rfl rfl
                  go_simp
                  exact ⟨_, rfl, rfl, Below.refl _ _⟩
              · intro a W hR hoff hd
                have e43 : a.tmps.getD 43 undef = .bool false := hd 33 _ rfl
                have HBW := Lib.hid (HB.out.trans ((und hR).mono HB.out.size))
                obtain ⟨ys, hys, ha⟩ := off_form hoff (mask := [false, false, false, false, false, false, false, false, false, false, true, true, true, true, true, true, true, true, true, true, true, true, true, true, true, true, true, true, true, true, true, true, true, true, true, true, true, true, true, true, true, true, true, true, false, false, false]) (by kernel_rfl)
                rw [hys] at e43
                subst ha
                clear hd hR
                simp only [fillFrom, Nat.zero_add, Nat.reduceAdd] at *
                rw [e43]
                clear e43 hys hoff
                rename_i hK
                refine hK _ _ ?_
                clear hK
                go_wp2_with fail
                go_roundg (n - (i + 1))
                case measure => omega
                case rel => exact ⟨i + 1, by go_num, by omega, Nat.le_refl _, HN, HBW⟩
            | false =>
              have HT : Hid (varsB l = false) := Lib.hid (by rw [HON.out, hnb, hmb, HP.out]; simp [hb])
              have hle : (Op.bytesLess nm.toList pn.toList || nm.toList == pn.toList) = true := by rw [leq_not, hb]; rfl
              clear hnb hmb HON HP HPS hx hb
              go_wp2_with fail
              refine wp_region_steps (fun j v _ => v = dvF5 b o n c i q nm k m s pn j) (belR wr.heap.size) (by kernel_rfl) (by kernel_rfl) (fun _ => Below.refl _ _) (fun _ _ _ h k => belR_trans h k) (fun _ _ _ _ h _ => h) ?_ ?_
              · refine ⟨?_, ?_, ?_, ?_, ?_, ?_, ?_, ?_, ?_, ?_, ?_, ?_, ?_, ?_, ?_, ?_, ?_, ?_, ?_, ?_, ?_, ?_, ?_, ?_, ?_, ?_, ?_, ?_, ?_, ?_, ?_, ?_, ?_, ?_, trivial⟩
                · intro a W hR hoff hd
                  left
                  refine ⟨rfl, ?_⟩
                  have e0 : a.tmps.getD 0 undef = .slice (some ⟨b, o, none⟩) n c := hoff.slot 0 (no_dst (by kernel_rfl))
                  go_simp
                  exact ⟨_, rfl, rfl, Below.refl _ _⟩
                · intro a W hR hoff hd
                  left
                  refine ⟨rfl, ?_⟩
                  have e0 : a.tmps.getD 3 undef = .int .i64 (i : Int) := hoff.slot 3 (no_dst (by kernel_rfl))
                  go_simp
                  exact ⟨_, rfl, rfl, Below.refl _ _⟩
                · intro a W hR hoff hd
                  left
                  refine ⟨rfl, ?_⟩
                  have e0 : a.tmps.getD 10 undef = .slice (some ⟨b, o, none⟩) n c := hd 0 _ rfl rfl
                  have e1 : a.tmps.getD 11 undef = .int .i64 (i : Int) := hd 1 _ rfl rfl
                  go_simp
                  exact ⟨_, rfl, rfl, Below.refl _ _⟩
                · intro a W hR hoff hd
                  left
                  refine ⟨rfl, ?_⟩
                  have e0 : a.tmps.getD 12 undef = .pointer (some ⟨b, o + i * 4, none⟩) := hd 2 _ rfl rfl
                  go_simp
                  exact ⟨_, rfl, rfl, Below.refl _ _⟩
                · intro a W hR hoff hd
                  left
                  refine ⟨rfl, ?_⟩
                  have e0 : a.tmps.getD 13 undef = .pointer (some ⟨b, o + i * 4, none⟩) := hd 3 _ rfl rfl
                  have c0 := cell_in (und hR) HL1.out D0.out
                  go_simp
                  exact ⟨_, rfl, rfl, Below.refl _ _⟩
                · intro a W hR hoff hd
                  left
                  refine ⟨rfl, ?_⟩
                  have e0 : a.tmps.getD 14 undef = .string nm := hd 4 _ rfl rfl
                  go_simp
                  refine (HDN.out W).mono ?_
                  rintro e W2 ⟨rfl, rfl⟩
                  exact ⟨_, rfl, rfl, Below.refl _ _⟩
                · intro a W hR hoff hd
                  left
                  refine ⟨rfl, ?_⟩
                  have e0 : a.tmps.getD 15 undef = .bool true := hd 5 _ rfl rfl
                  go_simp
                  exact ⟨_, rfl, rfl, Below.refl _ _⟩
                · intro a W hR hoff hd
                  left
                  refine ⟨rfl, ?_⟩
                  have e0 : a.tmps.getD 16 undef = .bool false := hd 6 _ rfl rfl
                  go_simp
                  exact ⟨_, rfl, rfl, Below.refl _ _⟩
                · intro a W hR hoff hd
                  left
                  have eg : a.tmps.getD 17 undef = .bool false := hd 7 _ rfl rfl
                  refine ⟨wanted_of (ops := _) (j := 7) (b := false) rfl rfl rfl eg, ?_⟩
                  clear eg
                  have e0 : a.tmps.getD 0 undef = .slice (some ⟨b, o, none⟩) n c := hoff.slot 0 (no_dst (by kernel_rfl))
                  go_simp
                  exact ⟨_, rfl, rfl, Below.refl _ _⟩
                · intro a W hR hoff hd
                  left
                  have eg : a.tmps.getD 17 undef = .bool false := hd 7 _ rfl rfl
                  refine ⟨wanted_of (ops := _) (j := 7) (b := false) rfl rfl rfl eg, ?_⟩
                  clear eg
                  have e0 : a.tmps.getD 3 undef = .int .i64 (i : Int) := hoff.slot 3 (no_dst (by kernel_rfl))
                  go_simp
                  exact ⟨_, rfl, rfl, Below.refl _ _⟩
                · intro a W hR hoff hd
                  left
                  have eg : a.tmps.getD 17 undef = .bool false := hd 7 _ rfl rfl
                  refine ⟨wanted_of (ops := _) (j := 7) (b := false) rfl rfl rfl eg, ?_⟩
                  clear eg
                  have e0 : a.tmps.getD 18 undef = .slice (some ⟨b, o, none⟩) n c := hd 8 _ rfl rfl
                  have e1 : a.tmps.getD 19 undef = .int .i64 (i : Int) := hd 9 _ rfl rfl
                  go_simp
                  exact ⟨_, rfl, rfl, Below.refl _ _⟩
                · intro a W hR hoff hd
                  left
                  have eg : a.tmps.getD 17 undef = .bool false := hd 7 _ rfl rfl
                  refine ⟨wanted_of (ops := _) (j := 7) (b := false) rfl rfl rfl eg, ?_⟩
                  clear eg
                  have e0 : a.tmps.getD 20 undef = .pointer (some ⟨b, o + i * 4, none⟩) := hd 10 _ rfl rfl
                  go_simp
                  exact ⟨_, rfl, rfl, Below.refl _ _⟩
                · intro a W hR hoff hd
                  left
                  have eg : a.tmps.getD 17 undef = .bool false := hd 7 _ rfl rfl
                  refine ⟨wanted_of (ops := _) (j := 7) (b := false) rfl rfl rfl eg, ?_⟩
                  clear eg
                  have e0 : a.tmps.getD 21 undef = .pointer (some ⟨b, o + i * 4 + 1, none⟩) := hd 11 _ rfl rfl
                  have c0 := cell_in (und hR) HL1.out D1.out
                  have c1 := cell_in (und hR) HL1.out D2.out
                  have c2 := cell_in (und hR) HL1.out D3.out
                  go_simp
                  exact ⟨_, rfl, rfl, Below.refl _ _⟩
                · intro a W hR hoff hd
                  left
                  have eg : a.tmps.getD 17 undef = .bool false := hd 7 _ rfl rfl
                  refine ⟨wanted_of (ops := _) (j := 7) (b := false) rfl rfl rfl eg, ?_⟩
                  clear eg
                  have e0 : a.tmps.getD 22 undef = .agg #[.int .i64 k, .int .i64 m, .string s] := hd 12 _ rfl rfl
                  go_simp
                  refine (HDM.out W).mono ?_
                  rintro e W2 ⟨rfl, hb2⟩
                  exact ⟨_, rfl, rfl, belR_of hR (Nat.le_refl _) hb2⟩
                · intro a W hR hoff hd
                  left
                  have eg : a.tmps.getD 17 undef = .bool false := hd 7 _ rfl rfl
                  refine ⟨wanted_of (ops := _) (j := 7) (b := false) rfl rfl rfl eg, ?_⟩
                  clear eg
                  have e0 : a.tmps.getD 23 undef = .bool true := hd 13 _ rfl rfl
                  go_simp
                  exact ⟨_, rfl, rfl, Below.refl _ _⟩
                · intro a W hR hoff hd
                  left
                  refine ⟨rfl, ?_⟩
                  have e0 : a.tmps.getD 17 undef = .bool false := hd 7 _ rfl rfl
                  have e1 : a.tmps.getD 24 undef = .bool false := hd 14 _ rfl rfl
                  go_simp
                  exact ⟨_, rfl, rfl, Below.refl _ _⟩
                · intro a W hR hoff hd
                  left
                  refine ⟨rfl, ?_⟩
                  have e0 : a.tmps.getD 25 undef = .bool false := hd 15 _ rfl rfl
                  go_simp
                  exact ⟨_, rfl, rfl, Below.refl _ _⟩
                · intro a W hR hoff hd
                  left
                  have eg : a.tmps.getD 26 undef = .bool false := hd 16 _ rfl rfl
                  refine ⟨wanted_of (ops := _) (j := 16) (b := false) rfl rfl rfl eg, ?_⟩
                  clear eg
                  have e0 : a.tmps.getD 3 undef = .int .i64 (i : Int) := hoff.slot 3 (no_dst (by kernel_rfl))
                  go_simp
                  exact ⟨_, rfl, rfl, Below.refl _ _⟩
                · intro a W hR hoff hd
                  left
                  have eg : a.tmps.getD 26 undef = .bool false := hd 16 _ rfl rfl
                  refine ⟨wanted_of (ops := _) (j := 16) (b := false) rfl rfl rfl eg, ?_⟩
                  clear eg
                  have e0 : a.tmps.getD 27 undef = .int .i64 (i : Int) := hd 17 _ rfl rfl
                  go_simp
                  first | exact ⟨_, rfl, rfl, Below.refl _ _⟩ | exact ⟨_, rfl, congrArg Value.bool (by assumption), Below.refl _ _⟩
                · intro a W hR hoff hd
                  left
                  have eg : a.tmps.getD 26 undef = .bool false := hd 16 _ rfl rfl
                  refine ⟨wanted_of (ops := _) (j := 16) (b := false) rfl rfl rfl eg, ?_⟩
                  clear eg
                  have e0 : a.tmps.getD 28 undef = .bool true := hd 18 _ rfl rfl
                  go_simp
                  exact ⟨_, rfl, rfl, Below.refl _ _⟩
                · intro a W hR hoff hd
                  left
                  have eg : a.tmps.getD 29 undef = .bool true := hd 19 _ rfl rfl
                  refine ⟨wanted_of (ops := _) (j := 19) (b := true) rfl rfl rfl eg, ?_⟩
                  clear eg
                  have e0 : a.tmps.getD 0 undef = .slice (some ⟨b, o, none⟩) n c := hoff.slot 0 (no_dst (by kernel_rfl))
                  go_simp
                  exact ⟨_, rfl, rfl, Below.refl _ _⟩
                · intro a W hR hoff hd
                  left
                  have eg : a.tmps.getD 29 undef = .bool true := hd 19 _ rfl rfl
                  refine ⟨wanted_of (ops := _) (j := 19) (b := true) rfl rfl rfl eg, ?_⟩
                  clear eg
                  have e0 : a.tmps.getD 3 undef = .int .i64 (i : Int) := hoff.slot 3 (no_dst (by kernel_rfl))
                  go_simp
                  exact ⟨_, rfl, rfl, Below.refl _ _⟩
                · intro a W hR hoff hd
                  left
                  have eg : a.tmps.getD 29 undef = .bool true := hd 19 _ rfl rfl
                  refine ⟨wanted_of (ops := _) (j := 19) (b := true) rfl rfl rfl eg, ?_⟩
                  clear eg
                  have e0 : a.tmps.getD 30 undef = .slice (some ⟨b, o, none⟩) n c := hd 20 _ rfl rfl
                  have e1 : a.tmps.getD 31 undef = .int .i64 (i : Int) := hd 21 _ rfl rfl
                  go_simp
                  exact ⟨_, rfl, rfl, Below.refl _ _⟩
                · intro a W hR hoff hd
                  left
                  have eg : a.tmps.getD 29 undef = .bool true := hd 19 _ rfl rfl
                  refine ⟨wanted_of (ops := _) (j := 19) (b := true) rfl rfl rfl eg, ?_⟩
                  clear eg
                  have e0 : a.tmps.getD 32 undef = .pointer (some ⟨b, o + i * 4, none⟩) := hd 22 _ rfl rfl
                  go_simp
                  exact ⟨_, rfl, rfl, Below.refl _ _⟩
                · intro a W hR hoff hd
                  left
                  have eg : a.tmps.getD 29 undef = .bool true := hd 19 _ rfl rfl
                  refine ⟨wanted_of (ops := _) (j := 19) (b := true) rfl rfl rfl eg, ?_⟩
                  clear eg
                  have e0 : a.tmps.getD 33 undef = .pointer (some ⟨b, o + i * 4, none⟩) := hd 23 _ rfl rfl
                  have c0 := cell_in (und hR) HL1.out D0.out
                  go_simp
                  exact ⟨_, rfl, rfl, Below.refl _ _⟩
                · intro a W hR hoff hd
                  left
                  have eg : a.tmps.getD 29 undef = .bool true := hd 19 _ rfl rfl
                  refine ⟨wanted_of (ops := _) (j := 19) (b := true) rfl rfl rfl eg, ?_⟩
                  clear eg
                  have e0 : a.tmps.getD 0 undef = .slice (some ⟨b, o, none⟩) n c := hoff.slot 0 (no_dst (by kernel_rfl))
                  go_simp
                  exact ⟨_, rfl, rfl, Below.refl _ _⟩
                · intro a W hR hoff hd
                  left
                  have eg : a.tmps.getD 29 undef = .bool true := hd 19 _ rfl rfl
                  refine ⟨wanted_of (ops := _) (j := 19) (b := true) rfl rfl rfl eg, ?_⟩
                  clear eg
                  have e0 : a.tmps.getD 3 undef = .int .i64 (i : Int) := hoff.slot 3 (no_dst (by kernel_rfl))
                  go_simp
                  exact ⟨_, rfl, rfl, Below.refl _ _⟩
                · intro a W hR hoff hd
                  left
                  have eg : a.tmps.getD 29 undef = .bool true := hd 19 _ rfl rfl
                  refine ⟨wanted_of (ops := _) (j := 19) (b := true) rfl rfl rfl eg, ?_⟩
                  clear eg
                  have e0 : a.tmps.getD 36 undef = .int .i64 (i : Int) := hd 26 _ rfl rfl
                  go_simp
                  first | exact ⟨_, rfl, rfl, Below.refl _ _⟩ | exact ⟨_, rfl, congrArg Value.bool (by assumption), Below.refl _ _⟩
                · intro a W hR hoff hd
                  left
                  have eg : a.tmps.getD 29 undef = .bool true := hd 19 _ rfl rfl
                  refine ⟨wanted_of (ops := _) (j := 19) (b := true) rfl rfl rfl eg, ?_⟩
                  clear eg
                  have e0 : a.tmps.getD 35 undef = .slice (some ⟨b, o, none⟩) n c := hd 25 _ rfl rfl
                  have e1 : a.tmps.getD 37 undef = .int .i64 (q : Int) := hd 27 _ rfl rfl
                  go_simp
                  exact ⟨_, rfl, rfl, Below.refl _ _⟩
                · intro a W hR hoff hd
                  left
                  have eg : a.tmps.getD 29 undef = .bool true := hd 19 _ rfl rfl
                  refine ⟨wanted_of (ops := _) (j := 19) (b := true) rfl rfl rfl eg, ?_⟩
                  clear eg
                  have e0 : a.tmps.getD 38 undef = .pointer (some ⟨b, o + q * 4, none⟩) := hd 28 _ rfl rfl
                  go_simp
                  exact ⟨_, rfl, rfl, Below.refl _ _⟩
                · intro a W hR hoff hd
                  left
                  have eg : a.tmps.getD 29 undef = .bool true := hd 19 _ rfl rfl
                  refine ⟨wanted_of (ops := _) (j := 19) (b := true) rfl rfl rfl eg, ?_⟩
                  clear eg
                  have e0 : a.tmps.getD 39 undef = .pointer (some ⟨b, o + q * 4, none⟩) := hd 29 _ rfl rfl
                  have c0 := cell_in (und hR) HL1.out P0.out
                  go_simp
                  exact ⟨_, rfl, rfl, Below.refl _ _⟩
                · intro a W hR hoff hd
                  left
                  have eg : a.tmps.getD 29 undef = .bool true := hd 19 _ rfl rfl
                  refine ⟨wanted_of (ops := _) (j := 19) (b := true) rfl rfl rfl eg, ?_⟩
                  clear eg
                  have e0 : a.tmps.getD 34 undef = .string nm := hd 24 _ rfl rfl
                  have e1 : a.tmps.getD 40 undef = .string pn := hd 30 _ rfl rfl
                  go_simp
                  first | exact ⟨_, rfl, rfl, Below.refl _ _⟩ | exact ⟨_, rfl, congrArg Value.bool (by assumption), Below.refl _ _⟩
                · intro a W hR hoff hd
                  left
                  have eg : a.tmps.getD 26 undef = .bool false := hd 16 _ rfl rfl
                  refine ⟨wanted_of (ops := _) (j := 16) (b := false) rfl rfl rfl eg, ?_⟩
                  clear eg
                  have e0 : a.tmps.getD 29 undef = .bool true := hd 19 _ rfl rfl
                  have e1 : a.tmps.getD 41 undef = .bool true := hd 31 _ rfl rfl
                  go_simp
                  exact ⟨_, rfl, rfl, Below.refl _ _⟩
                · intro a W hR hoff hd
                  left
                  refine ⟨rfl, ?_⟩
                  have e0 : a.tmps.getD 26 undef = .bool false := hd 16 _ rfl rfl
                  have e1 : a.tmps.getD 42 undef = .bool true := hd 32 _ rfl rfl
                  go_simp
                  exact ⟨_, rfl, rfl, Below.refl _ _⟩
              · intro a W hR hoff hd
                have e43 : a.tmps.getD 43 undef = .bool true := hd 33 _ rfl
                have HBW := Lib.hid (HB.out.trans ((und hR).mono HB.out.size))
                obtain ⟨ys, hys, ha⟩ := off_form hoff (mask := [false, false, false, false, false, false, false, false, false, false, true, true, true, true, true, true, true, true, true, true, true, true, true, true, true, true, true, true, true, true, true, true, true, true, true, true, true, true, true, true, true, true, true, true, false, false, false]) (by kernel_rfl)
                rw [hys] at e43
                subst ha
                clear hd hR
                simp only [fillFrom, Nat.zero_add, Nat.reduceAdd] at *
                rw [e43]
                clear e43 hys hoff
                rename_i hK
                refine hK _ _ ?_
                clear hK
                go_wp2_with fail
                go_ret
                exact ⟨by rw [HT.out]; rfl, HBW.out⟩
    · have HT : Hid (varsB l = decide ((n : Int) ≤ 16)) := Lib.hid (by rw [HI.out, List.drop_of_length_le (by omega), hln, show decide (n ≤ 16) = decide ((n : Int) ≤ 16) from decide_eq_decide.2 (by omega)]; cases prevN l i <;> exact Bool.and_true _)
      go_wp2
      go_ret
      exact ⟨by rw [HT.out]; rfl, HB.out⟩
end Go.Proofs.YtnmailhlncchmaaDoor
