/-
  What is proved: what the journal's Append answers where it refuses, and what Open answers. Conditions: the disk lies in memory as it must, numbers are whole numbers of 64 bits.
-/
import Derived.Test.YtbfhlleipeipbaaJa
namespace Go.Proofs.Ytbfhlleipeipbaa
open Go.RowKit

set_option maxRecDepth 100000 in
theorem append_long (w : World) (j : Nat) (A : Option Addr) (m c : Nat) (hm : 1048576 < m) (hm2 : m ≤ 140737488355328) :
    Calls Try.prog 78 #[.pointer (some ⟨j, 0, none⟩), .slice A m c] w fun e w' => e = .returned (.int .i64 3) ∧ w' = w := by
  go_enter Try.func78, Try.ntmps78
  go_wp2
  go_ret
  exact ⟨rfl, rfl⟩

set_option maxRecDepth 100000 in
theorem append_full (w : World) (j g : Nat) (f t en cn : Int) (A : Option Addr) (m c : Nat) (hf0 : 0 ≤ f) (hf1 : f ≤ 4194368) (ht0 : 0 ≤ t) (ht1 : t ≤ 4194368) (hen0 : 0 ≤ en) (hen1 : en ≤ 4194368)
    (hm : m ≤ 1048576) (hfit : t - f < en + 16 + m) (h : Jn w j g f t en cn) :
    Calls Try.prog 78 #[.pointer (some ⟨j, 0, none⟩), .slice A m c] w fun e w' => e = .returned (.int .i64 51) ∧ Below w.heap.size w w' := by
  obtain ⟨j0, j1, j2, j3, j4, jf⟩ := jn_cells h
  clear h jf
  go_enter Try.func78, Try.ntmps78
  go_wp2_with fail
  refine (spsize_any f t _ hf0 (by omega) ht0 (by omega)).mono ?_
  rintro e w1 ⟨rfl, hb1⟩
  go_wp2_with fail
  go_ret
  exact ⟨rfl, hb1⟩

/-! ### Open -/
def D.badArea (s : D) (fr to : Int) : Prop := fr < 0 ∨ (s.last.length : Int) < to ∨ to < fr
def NoJ (c : Int) (w : World) (e : Ending) (w' : World) : Prop := e = .returned (.tuple #[.pointer none, .slice none 0 0, .int .i64 c]) ∧ Below w.heap.size w w'

set_option maxRecDepth 100000 in
set_option maxHeartbeats 1000000 in
theorem jopen_arg (w : World) (g L : Nat) (q : Option Nat) (s : D) (h : Dk w g L q s) (fr to en cn : Int) (h1 : -9223372036854775808 ≤ fr) (h2 : fr ≤ 9223372036854775807) (hb : s.badArea fr to) :
    Calls Try.prog 46 #[.pointer (some ⟨g, 0, none⟩), .int .i64 fr, .int .i64 to, .int .i64 en, .int .i64 cn] w (NoJ 1 w) := by
  have hmost := h.ok.most
  have HS := Lib.hid (size_any w g L q s h)
  clear h
  unfold D.badArea at hb
  generalize hz : s.last.length = z at *
  clear hz
  by_cases ha : fr < 0
  · clear hb
    go_enter Try.func46, Try.ntmps46
    go_wp2_with fail
    go_ret3
    exact ⟨rfl, Below.refl _ _⟩
  · go_enter Try.func46, Try.ntmps46
    go_wp2_with fail
    refine HS.out.mono ?_
    rintro e w1 ⟨rfl, rfl⟩
    by_cases hc : (z : Int) < to
    · clear hb
      go_wp2_with fail
      go_ret3
      exact ⟨rfl, Below.refl _ _⟩
    · have hd : to < fr := by omega
      clear hb
      go_wp2_with fail
      go_ret3
      exact ⟨rfl, Below.refl _ _⟩

set_option maxRecDepth 100000 in
set_option maxHeartbeats 1000000 in
theorem jopen_end (w : World) (g L : Nat) (q : Option Nat) (s : D) (h : Dk w g L q s) (fr to en cn : Int) (h0 : 0 ≤ fr) (h1 : fr ≤ to) (h2 : to ≤ s.last.length) (hb : en < 0 ∨ 0 ≤ en ∧ to * 64 - fr * 64 < en) :
    Calls Try.prog 46 #[.pointer (some ⟨g, 0, none⟩), .int .i64 fr, .int .i64 to, .int .i64 en, .int .i64 cn] w (NoJ 52 w) := by
  have hmost := h.ok.most
  have HS := Lib.hid (size_any w g L q s h)
  clear h
  generalize hz : s.last.length = z at *
  clear hz
  go_enter Try.func46, Try.ntmps46
  go_wp2_with fail
  refine HS.out.mono ?_
  rintro e w1 ⟨rfl, rfl⟩
  rcases hb with hb | ⟨hb0, hb⟩
  · go_wp2_with fail
    go_ret3
    exact ⟨rfl, (Below.refl _ _).alloc (Nat.le_refl _) _⟩
  · go_wp2_with fail
    refine (spsize_any (fr * 64) (to * 64) _ (by omega) (by omega) (by omega) (by omega)).mono ?_
    rintro e w2 ⟨rfl, hb2⟩
    go_wp2_with fail
    go_ret3
    exact ⟨rfl, box_below hb2⟩

theorem splitN_count : ∀ (n : Nat) (l : List UInt8) (fs : List (List UInt8)), splitN n l = some fs → 16 * fs.length ≤ l.length
  | 0, l, fs, h => by
    simp only [splitN, Option.some.injEq] at h
    subst h
    simp
  | n + 1, l, fs, h => by
    simp only [splitN] at h
    split at h
    · cases h
      simp
    · split at h
      · cases h
      · rename_i f hf
        obtain ⟨gs, hg, rfl⟩ := Option.map_eq_some_iff.1 h
        have ih := splitN_count n _ gs hg
        obtain ⟨h1, rfl, _⟩ := firstOf_some hf
        have := (bodyOf_length h1).2
        simp only [List.length_drop, List.length_cons] at ih ⊢
        omega
theorem splitOf_count {l : List UInt8} {fs : List (List UInt8)} (h : splitOf l = some fs) : 16 * fs.length ≤ l.length := splitN_count _ _ _ h
def D.area (s : D) (k n : Nat) : List UInt8 := (s.bytes k ((n + 63) / 64)).take n
def spT (base : Nat) (fs : List (List UInt8)) (ok : Bool) (v : Value) (W : World) : Prop := ∃ B C, v = .tuple #[.slice B fs.length C, .bool ok] ∧ Frames base W fs (.slice B fs.length C)
theorem Frames.none_ (base : Nat) (w : World) : Frames base w [] (.slice none 0 0) := ⟨[], ⟨rfl, by simp⟩, World.ownsRow_nil _ _ _ _⟩
theorem Frames.mono {base base' : Nat} {w : World} {fs : List (List UInt8)} {v : Value} (h : Frames base w fs v) (hb : base' ≤ base) : Frames base' w fs v := by
  obtain ⟨ps, h1, h2⟩ := h
  exact ⟨ps, ⟨h1.1, fun p hp => own_mono (h1.2 p hp) hb⟩, own_mono h2 hb⟩
theorem Frames.below {base : Nat} {w w' : World} {fs : List (List UInt8)} {v : Value} (h : Frames base w fs v) (hb : Below w.heap.size w w') : Frames base w' fs v := by
  obtain ⟨ps, h1, h2⟩ := h
  exact ⟨ps, h1.below hb, own_belowG h2 hb⟩
theorem split_t {A : Option Addr} {n c : Nat} {l : List UInt8} {w : World} (h : Hold w A n c l) (hn : n ≤ 1099511627776) :
    Calls Try.prog 68 #[.slice A n c] w fun e w' => ∃ B C, e = .returned (.tuple #[.slice B ((splitOf l).getD []).length C, .bool (splitOf l).isSome]) ∧ Frames w.heap.size w' ((splitOf l).getD []) (.slice B ((splitOf l).getD []).length C) ∧ Below w.heap.size w w' := by
  refine (split_any A n c l w h hn).mono fun e w' hp => ?_
  unfold SplitPost at hp
  cases hs : splitOf l with
  | none =>
    rw [hs] at hp
    exact ⟨none, 0, hp.1, Frames.none_ _ _, hp.2⟩
  | some fs =>
    rw [hs] at hp
    exact hp
theorem jn_new (w : World) (g : Nat) (f t e c : Int) (k : Nat) (hk : k = w.heap.size) : Jn (w.alloc (.cells #[.pointer (some ⟨g, 0, none⟩), .int .i64 f, .int .i64 t, .int .i64 e, .int .i64 c] 76)) k g f t e c := heap_at _ _ _ hk
/-- what Open answers where area and end are right, and the disk is up -/
def GotJ (w : World) (g : Nat) (fr to en cn : Int) (fs : List (List UInt8)) (e : Ending) (w' : World) : Prop :=
  ∃ j B C, e = .returned (.tuple #[.pointer (some ⟨j, 0, none⟩), .slice B fs.length C, .int .i64 0]) ∧ w.heap.size ≤ j ∧ Jn w' j g (fr * 64) (to * 64) en cn ∧ Frames w.heap.size w' fs (.slice B fs.length C) ∧ Below w.heap.size w w'

set_option maxRecDepth 100000 in
set_option maxHeartbeats 1000000 in
theorem jopen_down (w : World) (g L : Nat) (q : Option Nat) (s : D) (h : Dk w g L q s) (fr to en cn : Int) (h0 : 0 ≤ fr) (h1 : fr ≤ to) (h2 : to ≤ s.last.length) (h5 : 0 ≤ en) (h6 : en ≤ to * 64 - fr * 64) (hl : s.left = 0) :
    Calls Try.prog 46 #[.pointer (some ⟨g, 0, none⟩), .int .i64 fr, .int .i64 to, .int .i64 en, .int .i64 cn] w (NoJ 32 w) := by
  have hmost := h.ok.most
  have HS := Lib.hid (size_any w g L q s h)
  have HD := Lib.hid h
  clear h
  generalize hz : s.last.length = z at *
  clear hz
  go_enter Try.func46, Try.ntmps46
  go_wp2_with fail
  refine HS.out.mono ?_
  rintro e w1 ⟨rfl, rfl⟩
  go_wp2_with fail
  refine (spsize_any (fr * 64) (to * 64) _ (by omega) (by omega) (by omega) (by omega)).mono ?_
  rintro e w2 ⟨rfl, hb2⟩
  have HB2 := Lib.hid (box_below hb2)
  clear hb2
  go_wp2_with fail
  refine (down_any _ g L q s (HD.out.below HB2.out)).mono ?_
  rintro e w3 ⟨rfl, rfl⟩
  go_wp2_with fail
  go_ret3
  exact ⟨rfl, HB2.out⟩

set_option maxRecDepth 100000 in
set_option maxHeartbeats 1000000 in
theorem jopen_up (w : World) (g L : Nat) (q : Option Nat) (s : D) (h : Dk w g L q s) (fr to en cn : Int) (k n : Nat) (hk : fr = (k : Int)) (hn : en = (n : Int)) (h1 : fr ≤ to) (h2 : to ≤ s.last.length) (h6 : en ≤ to * 64 - fr * 64) (hl : s.left ≠ 0) (hbuf : s.buf.length ≤ 4611686018427387904)
    (Q : Ending → World → Prop) (hno : ((splitOf (s.area k n)).isSome = true → ((((splitOf (s.area k n)).getD []).length : Int) ≠ cn)) → ∀ e w', NoJ 52 w e w' → Q e w')
    (hyes : (splitOf (s.area k n)).isSome = true → ((((splitOf (s.area k n)).getD []).length : Int) = cn) → ∀ e w', GotJ w g fr to en cn ((splitOf (s.area k n)).getD []) e w' → Q e w') :
    Calls Try.prog 46 #[.pointer (some ⟨g, 0, none⟩), .int .i64 fr, .int .i64 to, .int .i64 en, .int .i64 cn] w Q := by
  have hmost := h.ok.most
  have HS := Lib.hid (size_any w g L q s h)
  have HNO := Lib.hid hno
  have HYES := Lib.hid hyes
  have HRD : Hid (∀ W, Below w.heap.size w W → Calls Try.prog 69 #[.pointer (some ⟨g, 0, none⟩), .agg #[.int .i64 (fr * 64), .int .i64 (fr * 64 + en)]] W fun e w' => ∃ A c, e = .returned (.slice A n c) ∧ Hold w' A n c (s.area k n) ∧ Below W.heap.size W w') := Lib.hid fun W hb => by
    have e1 : fr * 64 = ((64 * k : Nat) : Int) := by omega
    have e2 : fr * 64 + en = ((64 * k + n : Nat) : Int) := by omega
    obtain ⟨N, hN⟩ : ∃ N, N = (n + 63) / 64 := ⟨_, rfl⟩
    have e3 : k + N ≤ s.last.length := by omega
    have := jread_any W g L q s (h.below hb) k n N (fr * 64) (fr * 64 + en) e1 e2 hl hN e3 hbuf
    unfold D.area
    rw [← hN]
    exact this
  have HD := Lib.hid h
  have hfs : ((splitOf (s.area k n)).getD []).length ≤ 1099511627776 := by
    cases hs : splitOf (s.area k n) with
    | none => simp
    | some fs =>
      have := splitOf_count hs
      have : (s.area k n).length ≤ n := by unfold D.area; simp only [List.length_take]; omega
      simp only [Option.getD_some]
      omega
  clear h hno hyes
  have h0 : 0 ≤ fr := by omega
  have h5 : 0 ≤ en := by omega
  have hn1 : n ≤ 4194304 := by omega
  generalize hz : s.last.length = z at *
  clear hz
  have HST : Hid (∀ A c W, Hold W A n c (s.area k n) → Calls Try.prog 68 #[.slice A n c] W fun e w' => ∃ B C, e = .returned (.tuple #[.slice B ((splitOf (s.area k n)).getD []).length C, .bool (splitOf (s.area k n)).isSome]) ∧ Frames W.heap.size w' ((splitOf (s.area k n)).getD []) (.slice B ((splitOf (s.area k n)).getD []).length C) ∧ Below W.heap.size W w') := Lib.hid fun A c W h => split_t h (by omega)
  generalize (splitOf (s.area k n)).getD [] = fs at *
  generalize (splitOf (s.area k n)).isSome = ok at *
  clear hk hn
  go_enter Try.func46, Try.ntmps46
  go_wp2_with fail
  refine HS.out.mono ?_
  rintro e w1 ⟨rfl, rfl⟩
  go_wp2_with fail
  refine (spsize_any (fr * 64) (to * 64) _ (by omega) (by omega) (by omega) (by omega)).mono ?_
  rintro e w2 ⟨rfl, hb2⟩
  have c13 := box_cell hb2 0 rfl
  have c14 := box_cell hb2 1 rfl
  have hbox := hb2
  have HB2 := Lib.hid (box_below hb2)
  have HBX := Lib.hid hbox
  clear hb2 hbox
  go_wp2_with fail
  refine (down_any _ g L q s (HD.out.below HB2.out)).mono ?_
  rintro e w3 ⟨rfl, rfl⟩
  go_wp2_with fail
  refine (sppart_any (fr * 64) (to * 64) 0 en _ (by omega) (by omega) (by omega) (by omega) (by omega) (by omega)).mono ?_
  rintro e w4 ⟨rfl, hb4⟩
  have HB4 := Lib.hid (HB2.out.trans (hb4.mono HB2.out.size))
  have HX4 := Lib.hid (HBX.out.trans (hb4.mono HBX.out.size))
  clear hb4 HB2 HBX c13 c14
  go_wp2_with fail
  refine (HRD.out w4 HB4.out).mono ?_
  rintro e w5 ⟨A, c, rfl, hh, hb5⟩
  have HB5 := Lib.hid (HB4.out.trans (hb5.mono HB4.out.size))
  have HX5 := Lib.hid (HX4.out.trans (hb5.mono HX4.out.size))
  have HH := Lib.hid hh
  clear hb5 HB4 HX4 hh
  go_wp2_with fail
  refine (HST.out A c w5 HH.out).mono ?_
  rintro e w6 ⟨B, C, rfl, hfr, hb6⟩
  have HB6 := Lib.hid (HB5.out.trans (hb6.mono HB5.out.size))
  have hx6 := HX5.out.trans (hb6.mono HX5.out.size)
  have HFR := Lib.hid (hfr.mono HB5.out.size)
  clear hb6 HB5 HX5 hfr
  have c13 := box_cell hx6 0 rfl
  have c14 := box_cell hx6 1 rfl
  clear hx6
  cases ok with
  | false =>
    go_wp2_with fail
    go_ret3
    exact HNO.out (fun h => by cases h) _ _ ⟨rfl, HB6.out⟩
  | true =>
    by_cases hcn : (fs.length : Int) = cn
    · go_wp2_with fail
      go_ret3
      exact HYES.out trivial hcn _ _ ⟨_, B, C, rfl, HB6.out.size, jn_new _ _ _ _ _ _ _ rfl, HFR.out.below ((Below.refl _ _).alloc (Nat.le_refl _) _), HB6.out.alloc HB6.out.size _⟩
    · go_wp2_with fail
      go_ret3
      exact HNO.out (fun _ => hcn) _ _ ⟨rfl, HB6.out⟩

open Classical in
/-- the error that Open answers -/
noncomputable def D.openErr (s : D) (fr to en cn : Int) : Int :=
  if s.badArea fr to then 1 else if en < 0 ∨ to * 64 - fr * 64 < en then 52 else if s.left = 0 then 32
  else if (splitOf (s.area fr.toNat en.toNat)).isSome = true ∧ (((splitOf (s.area fr.toNat en.toNat)).getD []).length : Int) = cn then 0 else 52
def D.openFs (s : D) (fr en : Int) : List (List UInt8) := (splitOf (s.area fr.toNat en.toNat)).getD []
def OpenPost (w : World) (g : Nat) (s : D) (fr to en cn : Int) (e : Ending) (w' : World) : Prop :=
  (s.openErr fr to en cn = 0 → GotJ w g fr to en cn (s.openFs fr en) e w') ∧ (s.openErr fr to en cn ≠ 0 → NoJ (s.openErr fr to en cn) w e w')
theorem jopen_any (w : World) (g L : Nat) (q : Option Nat) (s : D) (h : Dk w g L q s) (fr to en cn : Int) (h1 : -9223372036854775808 ≤ fr) (h2 : fr ≤ 9223372036854775807) (hbuf : s.buf.length ≤ 4611686018427387904) :
    Calls Try.prog 46 #[.pointer (some ⟨g, 0, none⟩), .int .i64 fr, .int .i64 to, .int .i64 en, .int .i64 cn] w (OpenPost w g s fr to en cn) := by
  by_cases ha : s.badArea fr to
  · have e : s.openErr fr to en cn = 1 := by unfold D.openErr; rw [if_pos ha]
    refine (jopen_arg w g L q s h fr to en cn h1 h2 ha).mono fun x w' hp => ?_
    unfold OpenPost
    rw [e]
    exact ⟨fun h => by omega, fun _ => hp⟩
  · by_cases hb : en < 0 ∨ to * 64 - fr * 64 < en
    · have e : s.openErr fr to en cn = 52 := by unfold D.openErr; rw [if_neg ha, if_pos hb]
      unfold D.badArea at ha
      refine (jopen_end w g L q s h fr to en cn (by omega) (by omega) (by omega) (by omega)).mono fun x w' hp => ?_
      unfold OpenPost
      rw [e]
      exact ⟨fun h => by omega, fun _ => hp⟩
    · by_cases hl : s.left = 0
      · have e : s.openErr fr to en cn = 32 := by unfold D.openErr; rw [if_neg ha, if_neg hb, if_pos hl]
        unfold D.badArea at ha
        refine (jopen_down w g L q s h fr to en cn (by omega) (by omega) (by omega) (by omega) (by omega) hl).mono fun x w' hp => ?_
        unfold OpenPost
        rw [e]
        exact ⟨fun h => by omega, fun _ => hp⟩
      · have ha' := ha
        unfold D.badArea at ha
        refine jopen_up w g L q s h fr to en cn fr.toNat en.toNat (by omega) (by omega) (by omega) (by omega) (by omega) hl hbuf _ (fun hc x w' hp => ?_) (fun hc1 hc2 x w' hp => ?_)
        · have e : s.openErr fr to en cn = 52 := by unfold D.openErr; rw [if_neg ha', if_neg hb, if_neg hl, if_neg (fun h => hc h.1 h.2)]
          unfold OpenPost
          rw [e]
          exact ⟨fun h => by omega, fun _ => hp⟩
        · have e : s.openErr fr to en cn = 0 := by unfold D.openErr; rw [if_neg ha', if_neg hb, if_neg hl, if_pos ⟨hc1, hc2⟩]
          unfold OpenPost
          rw [e]
          exact ⟨fun _ => hp, fun h => absurd rfl h⟩
end Go.Proofs.Ytbfhlleipeipbaa
