/-
  What is proved: the texts Ta, Tb, Tc, Td in one: what each proves stands ahead of it. Conditions: those in each statement.
-/
import Derived.Test.YtbfhlleipeipbaaSw
import Derived.Test.YtbfhlleipeipbaaSsc
import Derived.Test.YtbfhlleipeipbaaOwn
import Derived.Deep.DeepCutAuto
import Derived.Deep.CutBlock
/- What is proved: the contract of slices.symMergeCmpFunc at store.Change: two sorted neighbours become one sorted row, stable. Conditions: those in each statement. -/
namespace Go.Proofs.Ytbfhlleipeipbaa
open Go.Shelf Go.RowKit Go.Lib Go.Sort
variable {P : Program} {k : Nat}


/-- What each of the exchange's eighteen operations yields. -/
def swV (s i j pi pj ci cj : Value) : Nat → Value
  | 0 => s | 1 => i | 2 => s | 3 => i | 4 => j | 5 => s | 6 => i | 7 => j | 8 => pj | 9 => cj | 10 => s | 11 => i | 12 => pi | 13 => ci | 14 => pi | 16 => pj | _ => .tuple #[]
/-- Which world it is, by which of the exchange's two stores have come up. -/
def swW (V W1 W2 : World) (ls : Nat → Bool) : World := if ls 17 = true then W2 else if ls 15 = true then W1 else V
theorem swW_0 {V W1 W2 : World} {ls : Nat → Bool} (h1 : ls 17 = false) (h2 : ls 15 = false) : swW V W1 W2 ls = V := by simp [swW, h1, h2]
theorem swW_1 {V W1 W2 : World} {ls : Nat → Bool} (h1 : ls 17 = false) (h2 : ls 15 = true) : swW V W1 W2 ls = W1 := by simp [swW, h1, h2]
theorem swW_2 {V W1 W2 : World} {ls : Nat → Bool} (h1 : ls 17 = true) : swW V W1 W2 ls = W2 := by simp [swW, h1]
theorem swW_other {V W1 W2 : World} {ls : Nat → Bool} {i : Nat} (h1 : i ≠ 15) (h2 : i ≠ 17) : swW V W1 W2 (updB ls i) = swW V W1 W2 ls := by
  unfold swW; rw [updB_other ls (Ne.symm h1), updB_other ls (Ne.symm h2)]
theorem swW_15 {V W1 W2 : World} {ls : Nat → Bool} (h1 : ls 17 = false) : swW V W1 W2 (updB ls 15) = W1 := by
  unfold swW; rw [updB_other ls (by decide : 17 ≠ 15), updB_at, h1]; rfl
theorem swW_17 {V W1 W2 : World} {ls : Nat → Bool} : swW V W1 W2 (updB ls 17) = W2 := by
  unfold swW; rw [updB_at]; rfl

set_option maxHeartbeats 16000000 in
set_option maxRecDepth 1000000 in
theorem sym_left (L : SL P k) (cf : Cg → Cg → Int) (hO : SWO (ltOf cf)) (g : Nat) (cb : Array Value) (blk off cap : Nat) (d0 : Array Cg) (w0 : World)
    (eg : ∀ args w, (callFunc g args).run P w = .ok (.enter g args) w) (hcmp : CmpLays P g cb encC k cf blk off d0.size w0) (R : RowK encC k w0 blk off d0)
    (a m b : Nat) (d : Array Cg) (w : World) (hs : d0.size = d.size) (S : SWK encC k w0 blk off d w) (ham : a < m) (hmb : m < b) (hb : b ≤ d.size) (hsz : d.size < 4611686018427387904) (hU : SortedIn (ltOf cf) a m d) (hV : SortedIn (ltOf cf) m b d) (h1 : m = a + 1) :
    Calls P 106 #[.slice (some ⟨blk, off, none⟩) d.size cap, .int .i64 a, .int .i64 m, .int .i64 b, .func (.func g) #[] cb] w fun e w' => e = .returned (.tuple #[]) ∧ ∃ d', SWK encC k w0 blk off d' w' ∧ StbIn (ltOf cf) a (b - a) d d' ∧ SortedIn (ltOf cf) a b d' := by
  have mixed := L.mixed; have t3 := L.t3; have a3 := L.a3; have z3 := L.z3; have v3 := L.v3; have t4 := L.t4; have a4 := L.a4; have z4 := L.z4; have v4 := L.v4; have t36 := L.t36; have a36 := L.a36; have z36 := L.z36; have v36 := L.v36; have t119 := L.t119; have a119 := L.a119; have z119 := L.z119; have v119 := L.v119; have t150 := L.t150; have a150 := L.a150; have z150 := L.z150; have v150 := L.v150; have aE := L.aE; have zE := L.zE
  have HC : Aside _ := hcmp
  have S0 : Aside _ := S
  have HU : Aside _ := hU
  have HW : Aside _ := hV
  clear hcmp S hU hV
  have q1 : (m : Int) - (a : Int) = 1 := by omega
  have q1b : ((m : Int) - (a : Int) == 1) = true := by rw [q1]; rfl
  have h1' : m ≤ a + 1 := by omega
  have H1 : Aside _ := h1
  clear h1
  go_enter L.f106, Try.ntmps106
  go_wp2
  clear q1 q1b
  go_loopg [10, 11] (b - m) (fun kx v10 v11 wr => ∃ i j : Nat, v10 = .int .i64 i ∧ v11 = .int .i64 j ∧ m ≤ i ∧ i ≤ j ∧ j ≤ b ∧ j - i ≤ kx ∧ Aside (SWK encC k w0 blk off d wr) ∧ Aside ((∀ t, m ≤ t → t < i → ltOf cf d[t]! d[a]! = true) ∧ ∀ t, j ≤ t → t < b → ltOf cf d[t]! d[a]! = false))
  case atStart => exact ⟨m, b, rfl, rfl, Nat.le_refl _, by omega, Nat.le_refl _, by omega, S0, (⟨fun t h1 h2 => by omega, fun t h1 h2 => by omega⟩ : (∀ t, m ≤ t → t < m → ltOf cf d[t]! d[a]! = true) ∧ ∀ t, b ≤ t → t < b → ltOf cf d[t]! d[a]! = false)⟩
  case round =>
    clear S0
    obtain ⟨i, j, rfl, rfl, hmi, hij, hjb, hkx, S1, I⟩ := hrel
    by_cases hlt : i < j
    · have hltz : (i : Int) < (j : Int) := by omega
      obtain ⟨h, hh⟩ : ∃ h, h = (i + j) / 2 := ⟨_, rfl⟩
      have eh : ((i : Int) + (j : Int)) / 2 = (h : Int) := by omega
      have hi1 : i ≤ h := by omega
      have hj1 : h < j := by omega
      clear hh
      cases hlv : ltOf cf d[h]! d[a]! with
      | true =>
        have pa5 : (0 : Int) ≤ (h : Int) := by omega
        have ba5 : (h : Int) < (d.size : Int) := by omega
        have ra5 : IntKind.i64.wrap (h : Int) = (h : Int) := by rw [IntKind.wrap_i64]; omega
        have pc5 : (0 : Int) ≤ (a : Int) := by omega
        have bc5 : (a : Int) < (d.size : Int) := by omega
        obtain ⟨x5, hx5⟩ : ∃ x, x = d[h]! := ⟨_, rfl⟩
        obtain ⟨y5, hy5⟩ : ∃ x, x = d[a]! := ⟨_, rfl⟩
        have l5a := S1.out.ld R (by omega) P (h) (by omega)
        have l5b := S1.out.ld R (by omega) P (a) (by omega)
        rw [← hx5] at l5a
        rw [← hy5] at l5b
        have hc5 := S1.out.cmp HC.out (by omega) x5 y5
        have hv5 : cf x5 y5 < 0 := by rw [hx5, hy5]; exact of_decide_eq_true hlv
        have hd5 : decide (cf x5 y5 < 0) = true := decide_eq_true hv5
        clear hx5 hy5
        have HLV : Aside _ := hlv
        clear hlv
        go_wp2_with fail
        go_quiet_grown (first | (go_at_fn g; refine Calls.grown_of (hc5 _ _)))
        have S2 : Aside (SWK encC k w0 blk off d (grow (wr.drewN nq) osq)) := S1.out.grown nq osq
        clear l5a l5b hc5 S1 hv5 hd5
        generalize grow (wr.drewN nq) osq = w2 at S2 ⊢
        clear nq osq
        go_wp2

        go_roundg (j - (h + 1))
        case measure => omega
        case rel => exact ⟨h + 1, j, by first | rfl | go_num | (congr 1; omega), rfl, by omega, by omega, hjb, Nat.le_refl _, S2, (⟨fun t h1 h2 => by
          by_cases e : t = h
          · rw [e]; exact HLV.out
          · exact lt_down hO HLV.out (HW.out t h h1 (by omega) (by omega)), I.out.2⟩ : (∀ t, m ≤ t → t < h + 1 → ltOf cf d[t]! d[a]! = true) ∧ ∀ t, j ≤ t → t < b → ltOf cf d[t]! d[a]! = false)⟩
      | false =>
        have pa5 : (0 : Int) ≤ (h : Int) := by omega
        have ba5 : (h : Int) < (d.size : Int) := by omega
        have ra5 : IntKind.i64.wrap (h : Int) = (h : Int) := by rw [IntKind.wrap_i64]; omega
        have pc5 : (0 : Int) ≤ (a : Int) := by omega
        have bc5 : (a : Int) < (d.size : Int) := by omega
        obtain ⟨x5, hx5⟩ : ∃ x, x = d[h]! := ⟨_, rfl⟩
        obtain ⟨y5, hy5⟩ : ∃ x, x = d[a]! := ⟨_, rfl⟩
        have l5a := S1.out.ld R (by omega) P (h) (by omega)
        have l5b := S1.out.ld R (by omega) P (a) (by omega)
        rw [← hx5] at l5a
        rw [← hy5] at l5b
        have hc5 := S1.out.cmp HC.out (by omega) x5 y5
        have hv5 : ¬ cf x5 y5 < 0 := by rw [hx5, hy5]; exact of_decide_eq_false hlv
        have hd5 : decide (cf x5 y5 < 0) = false := decide_eq_false hv5
        clear hx5 hy5
        have HLV : Aside _ := hlv
        clear hlv
        go_wp2_with fail
        go_quiet_grown (first | (go_at_fn g; refine Calls.grown_of (hc5 _ _)))
        have S2 : Aside (SWK encC k w0 blk off d (grow (wr.drewN nq) osq)) := S1.out.grown nq osq
        clear l5a l5b hc5 S1 hv5 hd5
        generalize grow (wr.drewN nq) osq = w2 at S2 ⊢
        clear nq osq
        go_wp2

        go_roundg (h - i)
        case measure => omega
        case rel => exact ⟨i, h, rfl, rfl, hmi, hi1, by omega, Nat.le_refl _, S2, (⟨I.out.1, fun t h1 h2 => by
          by_cases e : t = h
          · rw [e]; exact HLV.out
          · exact hO.ntrans _ _ _ (HW.out h t (by omega) (by omega) h2) HLV.out⟩ : (∀ t, m ≤ t → t < i → ltOf cf d[t]! d[a]! = true) ∧ ∀ t, h ≤ t → t < b → ltOf cf d[t]! d[a]! = false)⟩
    · have hltz : ¬ (i : Int) < (j : Int) := by omega
      obtain rfl : j = i := by omega
      go_wp2
      go_loopg [13] (j - m) (fun kx v13 wr2 => ∃ (x : Nat) (dk : Array Cg), v13 = .int .i64 (x : Int) ∧ a ≤ x ∧ x + 1 ≤ j ∧ j - 1 - x ≤ kx ∧ dk.size = d.size ∧ Aside (SWK encC k w0 blk off dk wr2) ∧ Aside (Rotated a 1 (x - a) d dk))
      case atStart => exact ⟨a, d, rfl, Nat.le_refl _, by omega, by omega, rfl, S1, (by rw [Nat.sub_self]; exact Rotated.none_right a 1 d : Aside _)⟩
      case round =>
        clear S1
        obtain ⟨x, dk, rfl, hax, hxj, hkx2, hds, S1, F1⟩ := hrel
        by_cases hl2 : x < j - 1
        · have hl2z : (x : Int) < (j : Int) - 1 := by omega
          obtain ⟨y, hy⟩ : ∃ y, y = x + 1 := ⟨_, rfl⟩
          have ey : (x : Int) + 1 = (y : Int) := by omega
          have hyd : y < d.size := by omega
          have HY : Aside _ := hy
          clear hy
          have pa11 : (0 : Int) ≤ (x : Int) := by omega
          have ba11 : (x : Int) < (d.size : Int) := by omega
          have pc11 : (0 : Int) ≤ (y : Int) := by omega
          have bc11 : (y : Int) < (d.size : Int) := by omega
          have rc11 : IntKind.i64.wrap (y : Int) = (y : Int) := by rw [IntKind.wrap_i64]; omega
          have S2 : Aside (SWK encC k w0 blk off (swp dk x y) ((wr.drew.setCells blk (off + x * k) (encC dk[y]!)).setCells blk (off + y * k) (encC dk[x]!))) := S1.out.swapped R x y (by omega) (by omega)
          have la11 : Aside _ := S1.out.ld1 R (by omega) P x (by omega)
          have lb11 : Aside _ := S1.out.ld1 R (by omega) P y (by omega)
          have sa11 : Aside _ := S1.out.st1 R (by omega) P x (by omega) dk[y]!
          have sb11 : Aside _ := S1.out.st2 R (by omega) P x y (by omega) (by omega) dk[y]! dk[x]!
          have na11 : (encC dk[x]!).length = k := R.hk _
          have nb11 : (encC dk[y]!).length = k := R.hk _
          generalize encC dk[x]! = cI at S2 la11 sb11 na11
          generalize encC dk[y]! = cJ at S2 lb11 sa11 sb11 nb11
          clear S1
          go_wp2_with fail
          generalize hW2 : (wr.drew.setCells blk (off + x * k) cJ).setCells blk (off + y * k) cI = w2 at S2 sb11
          generalize hW1 : wr.drew.setCells blk (off + x * k) cJ = w1 at sa11 sb11
          clear hW1 hW2
          refine wp_region_chain (swV (.slice (some ⟨blk, off, none⟩) d.size cap) (.int .i64 (x : Int)) (.int .i64 (y : Int)) (.pointer (some ⟨blk, off + x * k, none⟩)) (.pointer (some ⟨blk, off + y * k, none⟩)) (.agg cI.toArray) (.agg cJ.toArray)) (swW wr.drew w1 w2) mixed (by kernel_rfl) rfl ?_ ?_
          · refine ⟨?_, ?_, ?_, ?_, ?_, ?_, ?_, ?_, ?_, ?_, ?_, ?_, ?_, ?_, ?_, ?_, ?_, ?_, trivial⟩
            · intro a0 ls hcl hi hd hoff hf
              left
              refine ⟨rfl, ?_⟩
              have e0 : a0.tmps.getD 0 undef = .slice (some ⟨blk, off, none⟩) d.size cap := hoff.slot 0 (no_dst (by kernel_rfl))
              rw [swW_other (i := 0) (by decide) (by decide)]
              generalize swW wr.drew w1 w2 ls = WW
              go_simp
              first | rfl | exact ⟨rfl, rfl⟩
            · intro a0 ls hcl hi hd hoff hf
              left
              refine ⟨rfl, ?_⟩
              have e0 : a0.tmps.getD 13 undef = .int .i64 (x : Int) := hoff.slot 13 (no_dst (by kernel_rfl))
              rw [swW_other (i := 1) (by decide) (by decide)]
              generalize swW wr.drew w1 w2 ls = WW
              go_simp
              first | rfl | exact ⟨rfl, rfl⟩
            · intro a0 ls hcl hi hd hoff hf
              left
              refine ⟨rfl, ?_⟩
              have e0 : a0.tmps.getD 0 undef = .slice (some ⟨blk, off, none⟩) d.size cap := hoff.slot 0 (no_dst (by kernel_rfl))
              rw [swW_other (i := 2) (by decide) (by decide)]
              generalize swW wr.drew w1 w2 ls = WW
              go_simp
              first | rfl | exact ⟨rfl, rfl⟩
            · intro a0 ls hcl hi hd hoff hf
              left
              refine ⟨rfl, ?_⟩
              have e0 : a0.tmps.getD 13 undef = .int .i64 (x : Int) := hoff.slot 13 (no_dst (by kernel_rfl))
              rw [swW_other (i := 3) (by decide) (by decide)]
              generalize swW wr.drew w1 w2 ls = WW
              go_simp
              first | rfl | exact ⟨rfl, rfl⟩
            · intro a0 ls hcl hi hd hoff hf
              left
              refine ⟨rfl, ?_⟩
              have e0 : a0.tmps.getD 64 undef = .int .i64 (x : Int) := hf 3 _ (hd 3 rfl) rfl
              rw [swW_other (i := 4) (by decide) (by decide)]
              generalize swW wr.drew w1 w2 ls = WW
              go_simp
              first | rfl | exact ⟨rfl, rfl⟩
            · intro a0 ls hcl hi hd hoff hf
              left
              refine ⟨rfl, ?_⟩
              have e0 : a0.tmps.getD 0 undef = .slice (some ⟨blk, off, none⟩) d.size cap := hoff.slot 0 (no_dst (by kernel_rfl))
              rw [swW_other (i := 5) (by decide) (by decide)]
              generalize swW wr.drew w1 w2 ls = WW
              go_simp
              first | rfl | exact ⟨rfl, rfl⟩
            · intro a0 ls hcl hi hd hoff hf
              left
              refine ⟨rfl, ?_⟩
              have e0 : a0.tmps.getD 13 undef = .int .i64 (x : Int) := hoff.slot 13 (no_dst (by kernel_rfl))
              rw [swW_other (i := 6) (by decide) (by decide)]
              generalize swW wr.drew w1 w2 ls = WW
              go_simp
              first | rfl | exact ⟨rfl, rfl⟩
            · intro a0 ls hcl hi hd hoff hf
              left
              refine ⟨rfl, ?_⟩
              have e0 : a0.tmps.getD 67 undef = .int .i64 (x : Int) := hf 6 _ (hd 6 rfl) rfl
              rw [swW_other (i := 7) (by decide) (by decide)]
              generalize swW wr.drew w1 w2 ls = WW
              go_simp
              first | rfl | exact ⟨rfl, rfl⟩
            · intro a0 ls hcl hi hd hoff hf
              left
              refine ⟨rfl, ?_⟩
              have e0 : a0.tmps.getD 66 undef = .slice (some ⟨blk, off, none⟩) d.size cap := hf 5 _ (hd 5 rfl) rfl
              have e1 : a0.tmps.getD 68 undef = .int .i64 (y : Int) := hf 7 _ (hd 7 rfl) rfl
              rw [swW_other (i := 8) (by decide) (by decide)]
              generalize swW wr.drew w1 w2 ls = WW
              go_simp
              first | rfl | exact ⟨rfl, rfl⟩
            · intro a0 ls hcl hi hd hoff hf
              left
              refine ⟨rfl, ?_⟩
              have e0 : a0.tmps.getD 69 undef = .pointer (some ⟨blk, off + y * k, none⟩) := hf 8 _ (hd 8 rfl) rfl
              have h15 : ls 15 = false := hcl.no hi rfl rfl
              have h17 : ls 17 = false := hcl.no h15 rfl rfl
              rw [swW_other (i := 9) (by decide) (by decide), swW_0 h17 h15]
              have l := lb11.out
              go_simp
              first | rfl | exact ⟨rfl, rfl⟩
            · intro a0 ls hcl hi hd hoff hf
              left
              refine ⟨rfl, ?_⟩
              have e0 : a0.tmps.getD 0 undef = .slice (some ⟨blk, off, none⟩) d.size cap := hoff.slot 0 (no_dst (by kernel_rfl))
              rw [swW_other (i := 10) (by decide) (by decide)]
              generalize swW wr.drew w1 w2 ls = WW
              go_simp
              first | rfl | exact ⟨rfl, rfl⟩
            · intro a0 ls hcl hi hd hoff hf
              left
              refine ⟨rfl, ?_⟩
              have e0 : a0.tmps.getD 13 undef = .int .i64 (x : Int) := hoff.slot 13 (no_dst (by kernel_rfl))
              rw [swW_other (i := 11) (by decide) (by decide)]
              generalize swW wr.drew w1 w2 ls = WW
              go_simp
              first | rfl | exact ⟨rfl, rfl⟩
            · intro a0 ls hcl hi hd hoff hf
              left
              refine ⟨rfl, ?_⟩
              have e0 : a0.tmps.getD 71 undef = .slice (some ⟨blk, off, none⟩) d.size cap := hf 10 _ (hd 10 rfl) rfl
              have e1 : a0.tmps.getD 72 undef = .int .i64 (x : Int) := hf 11 _ (hd 11 rfl) rfl
              rw [swW_other (i := 12) (by decide) (by decide)]
              generalize swW wr.drew w1 w2 ls = WW
              go_simp
              first | rfl | exact ⟨rfl, rfl⟩
            · intro a0 ls hcl hi hd hoff hf
              left
              refine ⟨rfl, ?_⟩
              have e0 : a0.tmps.getD 73 undef = .pointer (some ⟨blk, off + x * k, none⟩) := hf 12 _ (hd 12 rfl) rfl
              have h15 : ls 15 = false := hcl.no hi rfl rfl
              have h17 : ls 17 = false := hcl.no h15 rfl rfl
              rw [swW_other (i := 13) (by decide) (by decide), swW_0 h17 h15]
              have l := la11.out
              go_simp
              first | rfl | exact ⟨rfl, rfl⟩
            · intro a0 ls hcl hi hd hoff hf
              left
              refine ⟨rfl, ?_⟩
              have e0 : a0.tmps.getD 61 undef = .slice (some ⟨blk, off, none⟩) d.size cap := hf 0 _ (hd 0 rfl) rfl
              have e1 : a0.tmps.getD 62 undef = .int .i64 (x : Int) := hf 1 _ (hd 1 rfl) rfl
              rw [swW_other (i := 14) (by decide) (by decide)]
              generalize swW wr.drew w1 w2 ls = WW
              go_simp
              first | rfl | exact ⟨rfl, rfl⟩
            · intro a0 ls hcl hi hd hoff hf
              left
              refine ⟨rfl, ?_⟩
              have e0 : a0.tmps.getD 75 undef = .pointer (some ⟨blk, off + x * k, none⟩) := hf 14 _ (hd 14 rfl) rfl
              have e1 : a0.tmps.getD 70 undef = .agg cJ.toArray := hf 9 _ (hd 9 rfl) rfl
              have h17 : ls 17 = false := hcl.no hi rfl rfl
              rw [swW_15 h17, swW_0 h17 hi]
              have l := sa11.out
              have l2 := nb11
              go_simp
            · intro a0 ls hcl hi hd hoff hf
              left
              refine ⟨rfl, ?_⟩
              have e0 : a0.tmps.getD 63 undef = .slice (some ⟨blk, off, none⟩) d.size cap := hf 2 _ (hd 2 rfl) rfl
              have e1 : a0.tmps.getD 65 undef = .int .i64 (y : Int) := hf 4 _ (hd 4 rfl) rfl
              rw [swW_other (i := 16) (by decide) (by decide)]
              generalize swW wr.drew w1 w2 ls = WW
              go_simp
              first | rfl | exact ⟨rfl, rfl⟩
            · intro a0 ls hcl hi hd hoff hf
              left
              refine ⟨rfl, ?_⟩
              have e0 : a0.tmps.getD 76 undef = .pointer (some ⟨blk, off + y * k, none⟩) := hf 16 _ (hd 16 rfl) rfl
              have e1 : a0.tmps.getD 74 undef = .agg cI.toArray := hf 13 _ (hd 13 rfl) rfl
              have h15 : ls 15 = true := hd 15 rfl
              rw [swW_17, swW_1 hi h15]
              have l := sb11.out
              have l2 := na11
              go_simp
          · intro a0 ls hl hoff hf
            rw [swW_2 (hl 17 (by decide))]
            obtain ⟨ys, _, ha⟩ := off_form hoff (mask := [false, false, false, false, false, false, false, false, false, false, false, false, false, false, false, false, false, false, false, false, false, false, false, false, false, false, false, false, false, false, false, false, false, false, false, false, false, false, false, false, false, false, false, false, false, false, false, false, false, false, false, false, false, false, false, false, false, false, false, false, false, true, true, true, true, true, true, true, true, true, true, true, true, true, true, true, true, false, false, false, false, false, false, false, false, false, false, false, false, false, false, false, false, false, false, false, false, false, false, false, false, false, false, false, false, false, false, false, false, false, false, false, false, false, false, false, false, false, false, false, false, false, false, false, false, false, false, false, false, false, false, false, false, false, false, false, false, false, false, false, false, false, false, false, false, false, false, false, false, false, false, false, false, false, false, false, false, false, false, false, false, false, false, false, false, false, false, false, false, false, false, false, false, false, false, false, false, false, false, false, false, false, false, false, false, false, false, false, false, false, false, false, false, false, false, false, false, false, false, false, false, false, false, false, false, false, false, false, false, false, false, false, false, false, false, false, false, false, false, false]) (by kernel_rfl)
            clear hf hoff hl la11 lb11 sa11 sb11 na11 nb11
            subst ha
            simp only [fillFrom, Nat.zero_add, Nat.reduceAdd]
            go_wp2

            go_roundg (j - 1 - y)
            case measure => have := HY.out; omega
            case rel => exact ⟨y, swp dk x y, rfl, by have := HY.out; omega, by have := HY.out; omega, Nat.le_refl _, by rw [size_swp]; exact hds, S2, (by
              have f := F1.out.on (by have := HY.out; omega)
              rw [show a + (x - a) = x by omega] at f
              rw [HY.out, show x + 1 - a = x - a + 1 by omega]; exact f : Aside _)⟩
        · have hl2z : ¬ (x : Int) < (j : Int) - 1 := by omega
          go_wp2
          (try simp only [Exit.inBlock, Exit.then])
          refine bodyPost_ret (results_none rfl _ _ _) rfl ?_
          have h1 := H1.out
          subst h1
          obtain rfl : x = j - 1 := by omega
          obtain ⟨r1, r2⟩ := one_left hO (b := b) F1.out (by omega) HW.out (fun u hu hu2 => I.out.1 u hu (by omega)) (fun u hu hu2 => I.out.2 u (by omega) hu2)
          exact ⟨rfl, dk, S1.out, r1, r2⟩
end Go.Proofs.Ytbfhlleipeipbaa

/- What is proved: the contract of slices.symMergeCmpFunc at store.Change: two sorted neighbours become one sorted row, stable. Conditions: those in each statement. -/
namespace Go.Proofs.Ytbfhlleipeipbaa
open Go.Shelf Go.RowKit Go.Lib Go.Sort
variable {P : Program} {k : Nat}

set_option maxHeartbeats 16000000 in
set_option maxRecDepth 1000000 in
theorem sym_right (L : SL P k) (cf : Cg → Cg → Int) (hO : SWO (ltOf cf)) (g : Nat) (cb : Array Value) (blk off cap : Nat) (d0 : Array Cg) (w0 : World)
    (eg : ∀ args w, (callFunc g args).run P w = .ok (.enter g args) w) (hcmp : CmpLays P g cb encC k cf blk off d0.size w0) (R : RowK encC k w0 blk off d0)
    (a m b : Nat) (d : Array Cg) (w : World) (hs : d0.size = d.size) (S : SWK encC k w0 blk off d w) (ham : a < m) (hmb : m < b) (hb : b ≤ d.size) (hsz : d.size < 4611686018427387904) (hU : SortedIn (ltOf cf) a m d) (hV : SortedIn (ltOf cf) m b d) (h0 : ¬ m = a + 1) (h1 : b = m + 1) :
    Calls P 106 #[.slice (some ⟨blk, off, none⟩) d.size cap, .int .i64 a, .int .i64 m, .int .i64 b, .func (.func g) #[] cb] w fun e w' => e = .returned (.tuple #[]) ∧ ∃ d', SWK encC k w0 blk off d' w' ∧ StbIn (ltOf cf) a (b - a) d d' ∧ SortedIn (ltOf cf) a b d' := by
  have mixed := L.mixed; have t3 := L.t3; have a3 := L.a3; have z3 := L.z3; have v3 := L.v3; have t4 := L.t4; have a4 := L.a4; have z4 := L.z4; have v4 := L.v4; have t36 := L.t36; have a36 := L.a36; have z36 := L.z36; have v36 := L.v36; have t119 := L.t119; have a119 := L.a119; have z119 := L.z119; have v119 := L.v119; have t150 := L.t150; have a150 := L.a150; have z150 := L.z150; have v150 := L.v150; have aE := L.aE; have zE := L.zE
  have HC : Aside _ := hcmp
  have S0 : Aside _ := S
  have HU : Aside _ := hU
  have HW : Aside _ := hV
  clear hcmp S hU hV
  have q0 : ¬ (m : Int) - (a : Int) = 1 := by omega
  have q1 : (b : Int) - (m : Int) = 1 := by omega
  have q0b : ((m : Int) - (a : Int) == 1) = false := beq_false_of_ne q0
  have q1b : ((b : Int) - (m : Int) == 1) = true := by rw [q1]; rfl
  have h1' : b ≤ m + 1 := by omega
  have H1 : Aside _ := h1
  clear h1
  go_enter L.f106, Try.ntmps106
  go_wp2
  clear q0 q1 q0b q1b
  go_loopg [14, 15] (m - a) (fun kx v14 v15 wr => ∃ i j : Nat, v14 = .int .i64 i ∧ v15 = .int .i64 j ∧ a ≤ i ∧ i ≤ j ∧ j ≤ m ∧ j - i ≤ kx ∧ Aside (SWK encC k w0 blk off d wr) ∧ Aside ((∀ t, a ≤ t → t < i → ltOf cf d[m]! d[t]! = false) ∧ ∀ t, j ≤ t → t < m → ltOf cf d[m]! d[t]! = true))
  case atStart => exact ⟨a, m, rfl, rfl, Nat.le_refl _, by omega, Nat.le_refl _, by omega, S0, (⟨fun t h1 h2 => by omega, fun t h1 h2 => by omega⟩ : (∀ t, a ≤ t → t < a → ltOf cf d[m]! d[t]! = false) ∧ ∀ t, m ≤ t → t < m → ltOf cf d[m]! d[t]! = true)⟩
  case round =>
    clear S0
    obtain ⟨i, j, rfl, rfl, hmi, hij, hjb, hkx, S1, I⟩ := hrel
    by_cases hlt : i < j
    · have hltz : (i : Int) < (j : Int) := by omega
      obtain ⟨h, hh⟩ : ∃ h, h = (i + j) / 2 := ⟨_, rfl⟩
      have eh : ((i : Int) + (j : Int)) / 2 = (h : Int) := by omega
      have hi1 : i ≤ h := by omega
      have hj1 : h < j := by omega
      clear hh
      cases hlv : ltOf cf d[m]! d[h]! with
      | false =>
        have pa5 : (0 : Int) ≤ (m : Int) := by omega
        have ba5 : (m : Int) < (d.size : Int) := by omega
        have ra5 : IntKind.i64.wrap (m : Int) = (m : Int) := by rw [IntKind.wrap_i64]; omega
        have pc5 : (0 : Int) ≤ (h : Int) := by omega
        have bc5 : (h : Int) < (d.size : Int) := by omega
        obtain ⟨x5, hx5⟩ : ∃ x, x = d[m]! := ⟨_, rfl⟩
        obtain ⟨y5, hy5⟩ : ∃ x, x = d[h]! := ⟨_, rfl⟩
        have l5a := S1.out.ld R (by omega) P (m) (by omega)
        have l5b := S1.out.ld R (by omega) P (h) (by omega)
        rw [← hx5] at l5a
        rw [← hy5] at l5b
        have hc5 := S1.out.cmp HC.out (by omega) x5 y5
        have hv5 : ¬ cf x5 y5 < 0 := by rw [hx5, hy5]; exact of_decide_eq_false hlv
        have hd5 : decide (cf x5 y5 < 0) = false := decide_eq_false hv5
        clear hx5 hy5
        have HLV : Aside _ := hlv
        clear hlv
        go_wp2_with fail
        go_quiet_grown (first | (go_at_fn g; refine Calls.grown_of (hc5 _ _)))
        have S2 : Aside (SWK encC k w0 blk off d (grow (wr.drewN nq) osq)) := S1.out.grown nq osq
        clear l5a l5b hc5 S1 hv5 hd5
        generalize grow (wr.drewN nq) osq = w2 at S2 ⊢
        clear nq osq
        go_wp2

        go_roundg (j - (h + 1))
        case measure => omega
        case rel => exact ⟨h + 1, j, by first | rfl | go_num | (congr 1; omega), rfl, by omega, by omega, hjb, Nat.le_refl _, S2, (⟨fun t h1 h2 => by
          by_cases e : t = h
          · rw [e]; exact HLV.out
          · exact hO.ntrans _ _ _ HLV.out (HU.out t h h1 (by omega) (by omega)), I.out.2⟩ : (∀ t, a ≤ t → t < h + 1 → ltOf cf d[m]! d[t]! = false) ∧ ∀ t, j ≤ t → t < m → ltOf cf d[m]! d[t]! = true)⟩
      | true =>
        have pa5 : (0 : Int) ≤ (m : Int) := by omega
        have ba5 : (m : Int) < (d.size : Int) := by omega
        have ra5 : IntKind.i64.wrap (m : Int) = (m : Int) := by rw [IntKind.wrap_i64]; omega
        have pc5 : (0 : Int) ≤ (h : Int) := by omega
        have bc5 : (h : Int) < (d.size : Int) := by omega
        obtain ⟨x5, hx5⟩ : ∃ x, x = d[m]! := ⟨_, rfl⟩
        obtain ⟨y5, hy5⟩ : ∃ x, x = d[h]! := ⟨_, rfl⟩
        have l5a := S1.out.ld R (by omega) P (m) (by omega)
        have l5b := S1.out.ld R (by omega) P (h) (by omega)
        rw [← hx5] at l5a
        rw [← hy5] at l5b
        have hc5 := S1.out.cmp HC.out (by omega) x5 y5
        have hv5 : cf x5 y5 < 0 := by rw [hx5, hy5]; exact of_decide_eq_true hlv
        have hd5 : decide (cf x5 y5 < 0) = true := decide_eq_true hv5
        clear hx5 hy5
        have HLV : Aside _ := hlv
        clear hlv
        go_wp2_with fail
        go_quiet_grown (first | (go_at_fn g; refine Calls.grown_of (hc5 _ _)))
        have S2 : Aside (SWK encC k w0 blk off d (grow (wr.drewN nq) osq)) := S1.out.grown nq osq
        clear l5a l5b hc5 S1 hv5 hd5
        generalize grow (wr.drewN nq) osq = w2 at S2 ⊢
        clear nq osq
        go_wp2

        go_roundg (h - i)
        case measure => omega
        case rel => exact ⟨i, h, rfl, rfl, hmi, hi1, by omega, Nat.le_refl _, S2, (⟨I.out.1, fun t h1 h2 => by
          by_cases e : t = h
          · rw [e]; exact HLV.out
          · exact lt_up hO HLV.out (HU.out h t (by omega) (by omega) h2)⟩ : (∀ t, a ≤ t → t < i → ltOf cf d[m]! d[t]! = false) ∧ ∀ t, h ≤ t → t < m → ltOf cf d[m]! d[t]! = true)⟩
    · have hltz : ¬ (i : Int) < (j : Int) := by omega
      obtain rfl : j = i := by omega
      go_wp2
      go_loopg [17] (m - j) (fun kx v17 wr2 => ∃ (t : Nat) (dk : Array Cg), v17 = .int .i64 (t : Int) ∧ j ≤ t ∧ t ≤ m ∧ t - j ≤ kx ∧ dk.size = d.size ∧ Aside (SWK encC k w0 blk off dk wr2) ∧ Aside (Rotated t (m - t) 1 d dk))
      case atStart => exact ⟨m, d, rfl, hjb, Nat.le_refl _, Nat.le_refl _, rfl, S1, (by rw [Nat.sub_self]; exact Rotated.none_left m 1 d : Aside _)⟩
      case round =>
        clear S1
        obtain ⟨t, dk, rfl, htj, htm, hkx2, hds, S1, F1⟩ := hrel
        by_cases hl2 : j < t
        · have hl2z : (j : Int) < (t : Int) := by omega
          obtain ⟨u, hu⟩ : ∃ u, u + 1 = t := ⟨t - 1, by omega⟩
          have eu : (t : Int) - 1 = (u : Int) := by omega
          have htd : t < d.size := by omega
          have hud : u < d.size := by omega
          have HY : Aside _ := hu
          clear hu
          have pa23 : (0 : Int) ≤ (t : Int) := by omega
          have ba23 : (t : Int) < (d.size : Int) := by omega
          have pc23 : (0 : Int) ≤ (u : Int) := by omega
          have bc23 : (u : Int) < (d.size : Int) := by omega
          have rc23 : IntKind.i64.wrap (u : Int) = (u : Int) := by rw [IntKind.wrap_i64]; omega
          have S2 : Aside (SWK encC k w0 blk off (swp dk t u) ((wr.drew.setCells blk (off + t * k) (encC dk[u]!)).setCells blk (off + u * k) (encC dk[t]!))) := S1.out.swapped R t u (by omega) (by omega)
          have la23 : Aside _ := S1.out.ld1 R (by omega) P t (by omega)
          have lb23 : Aside _ := S1.out.ld1 R (by omega) P u (by omega)
          have sa23 : Aside _ := S1.out.st1 R (by omega) P t (by omega) dk[u]!
          have sb23 : Aside _ := S1.out.st2 R (by omega) P t u (by omega) (by omega) dk[u]! dk[t]!
          have na23 : (encC dk[t]!).length = k := R.hk _
          have nb23 : (encC dk[u]!).length = k := R.hk _
          generalize encC dk[t]! = cI at S2 la23 sb23 na23
          generalize encC dk[u]! = cJ at S2 lb23 sa23 sb23 nb23
          clear S1
          go_wp2_with fail
          generalize hW2 : (wr.drew.setCells blk (off + t * k) cJ).setCells blk (off + u * k) cI = w2 at S2 sb23
          generalize hW1 : wr.drew.setCells blk (off + t * k) cJ = w1 at sa23 sb23
          clear hW1 hW2
          refine wp_region_chain (swV (.slice (some ⟨blk, off, none⟩) d.size cap) (.int .i64 (t : Int)) (.int .i64 (u : Int)) (.pointer (some ⟨blk, off + t * k, none⟩)) (.pointer (some ⟨blk, off + u * k, none⟩)) (.agg cI.toArray) (.agg cJ.toArray)) (swW wr.drew w1 w2) mixed (by kernel_rfl) rfl ?_ ?_
          · refine ⟨?_, ?_, ?_, ?_, ?_, ?_, ?_, ?_, ?_, ?_, ?_, ?_, ?_, ?_, ?_, ?_, ?_, ?_, trivial⟩
            · intro a0 ls hcl hi hd hoff hf
              left
              refine ⟨rfl, ?_⟩
              have e0 : a0.tmps.getD 0 undef = .slice (some ⟨blk, off, none⟩) d.size cap := hoff.slot 0 (no_dst (by kernel_rfl))
              rw [swW_other (i := 0) (by decide) (by decide)]
              generalize swW wr.drew w1 w2 ls = WW
              go_simp
              first | rfl | exact ⟨rfl, rfl⟩
            · intro a0 ls hcl hi hd hoff hf
              left
              refine ⟨rfl, ?_⟩
              have e0 : a0.tmps.getD 17 undef = .int .i64 (t : Int) := hoff.slot 17 (no_dst (by kernel_rfl))
              rw [swW_other (i := 1) (by decide) (by decide)]
              generalize swW wr.drew w1 w2 ls = WW
              go_simp
              first | rfl | exact ⟨rfl, rfl⟩
            · intro a0 ls hcl hi hd hoff hf
              left
              refine ⟨rfl, ?_⟩
              have e0 : a0.tmps.getD 0 undef = .slice (some ⟨blk, off, none⟩) d.size cap := hoff.slot 0 (no_dst (by kernel_rfl))
              rw [swW_other (i := 2) (by decide) (by decide)]
              generalize swW wr.drew w1 w2 ls = WW
              go_simp
              first | rfl | exact ⟨rfl, rfl⟩
            · intro a0 ls hcl hi hd hoff hf
              left
              refine ⟨rfl, ?_⟩
              have e0 : a0.tmps.getD 17 undef = .int .i64 (t : Int) := hoff.slot 17 (no_dst (by kernel_rfl))
              rw [swW_other (i := 3) (by decide) (by decide)]
              generalize swW wr.drew w1 w2 ls = WW
              go_simp
              first | rfl | exact ⟨rfl, rfl⟩
            · intro a0 ls hcl hi hd hoff hf
              left
              refine ⟨rfl, ?_⟩
              have e0 : a0.tmps.getD 116 undef = .int .i64 (t : Int) := hf 3 _ (hd 3 rfl) rfl
              rw [swW_other (i := 4) (by decide) (by decide)]
              generalize swW wr.drew w1 w2 ls = WW
              go_simp
              first | rfl | exact ⟨rfl, rfl⟩
            · intro a0 ls hcl hi hd hoff hf
              left
              refine ⟨rfl, ?_⟩
              have e0 : a0.tmps.getD 0 undef = .slice (some ⟨blk, off, none⟩) d.size cap := hoff.slot 0 (no_dst (by kernel_rfl))
              rw [swW_other (i := 5) (by decide) (by decide)]
              generalize swW wr.drew w1 w2 ls = WW
              go_simp
              first | rfl | exact ⟨rfl, rfl⟩
            · intro a0 ls hcl hi hd hoff hf
              left
              refine ⟨rfl, ?_⟩
              have e0 : a0.tmps.getD 17 undef = .int .i64 (t : Int) := hoff.slot 17 (no_dst (by kernel_rfl))
              rw [swW_other (i := 6) (by decide) (by decide)]
              generalize swW wr.drew w1 w2 ls = WW
              go_simp
              first | rfl | exact ⟨rfl, rfl⟩
            · intro a0 ls hcl hi hd hoff hf
              left
              refine ⟨rfl, ?_⟩
              have e0 : a0.tmps.getD 119 undef = .int .i64 (t : Int) := hf 6 _ (hd 6 rfl) rfl
              rw [swW_other (i := 7) (by decide) (by decide)]
              generalize swW wr.drew w1 w2 ls = WW
              go_simp
              first | rfl | exact ⟨rfl, rfl⟩
            · intro a0 ls hcl hi hd hoff hf
              left
              refine ⟨rfl, ?_⟩
              have e0 : a0.tmps.getD 118 undef = .slice (some ⟨blk, off, none⟩) d.size cap := hf 5 _ (hd 5 rfl) rfl
              have e1 : a0.tmps.getD 120 undef = .int .i64 (u : Int) := hf 7 _ (hd 7 rfl) rfl
              rw [swW_other (i := 8) (by decide) (by decide)]
              generalize swW wr.drew w1 w2 ls = WW
              go_simp
              first | rfl | exact ⟨rfl, rfl⟩
            · intro a0 ls hcl hi hd hoff hf
              left
              refine ⟨rfl, ?_⟩
              have e0 : a0.tmps.getD 121 undef = .pointer (some ⟨blk, off + u * k, none⟩) := hf 8 _ (hd 8 rfl) rfl
              have h15 : ls 15 = false := hcl.no hi rfl rfl
              have h17 : ls 17 = false := hcl.no h15 rfl rfl
              rw [swW_other (i := 9) (by decide) (by decide), swW_0 h17 h15]
              have l := lb23.out
              go_simp
              first | rfl | exact ⟨rfl, rfl⟩
            · intro a0 ls hcl hi hd hoff hf
              left
              refine ⟨rfl, ?_⟩
              have e0 : a0.tmps.getD 0 undef = .slice (some ⟨blk, off, none⟩) d.size cap := hoff.slot 0 (no_dst (by kernel_rfl))
              rw [swW_other (i := 10) (by decide) (by decide)]
              generalize swW wr.drew w1 w2 ls = WW
              go_simp
              first | rfl | exact ⟨rfl, rfl⟩
            · intro a0 ls hcl hi hd hoff hf
              left
              refine ⟨rfl, ?_⟩
              have e0 : a0.tmps.getD 17 undef = .int .i64 (t : Int) := hoff.slot 17 (no_dst (by kernel_rfl))
              rw [swW_other (i := 11) (by decide) (by decide)]
              generalize swW wr.drew w1 w2 ls = WW
              go_simp
              first | rfl | exact ⟨rfl, rfl⟩
            · intro a0 ls hcl hi hd hoff hf
              left
              refine ⟨rfl, ?_⟩
              have e0 : a0.tmps.getD 123 undef = .slice (some ⟨blk, off, none⟩) d.size cap := hf 10 _ (hd 10 rfl) rfl
              have e1 : a0.tmps.getD 124 undef = .int .i64 (t : Int) := hf 11 _ (hd 11 rfl) rfl
              rw [swW_other (i := 12) (by decide) (by decide)]
              generalize swW wr.drew w1 w2 ls = WW
              go_simp
              first | rfl | exact ⟨rfl, rfl⟩
            · intro a0 ls hcl hi hd hoff hf
              left
              refine ⟨rfl, ?_⟩
              have e0 : a0.tmps.getD 125 undef = .pointer (some ⟨blk, off + t * k, none⟩) := hf 12 _ (hd 12 rfl) rfl
              have h15 : ls 15 = false := hcl.no hi rfl rfl
              have h17 : ls 17 = false := hcl.no h15 rfl rfl
              rw [swW_other (i := 13) (by decide) (by decide), swW_0 h17 h15]
              have l := la23.out
              go_simp
              first | rfl | exact ⟨rfl, rfl⟩
            · intro a0 ls hcl hi hd hoff hf
              left
              refine ⟨rfl, ?_⟩
              have e0 : a0.tmps.getD 113 undef = .slice (some ⟨blk, off, none⟩) d.size cap := hf 0 _ (hd 0 rfl) rfl
              have e1 : a0.tmps.getD 114 undef = .int .i64 (t : Int) := hf 1 _ (hd 1 rfl) rfl
              rw [swW_other (i := 14) (by decide) (by decide)]
              generalize swW wr.drew w1 w2 ls = WW
              go_simp
              first | rfl | exact ⟨rfl, rfl⟩
            · intro a0 ls hcl hi hd hoff hf
              left
              refine ⟨rfl, ?_⟩
              have e0 : a0.tmps.getD 127 undef = .pointer (some ⟨blk, off + t * k, none⟩) := hf 14 _ (hd 14 rfl) rfl
              have e1 : a0.tmps.getD 122 undef = .agg cJ.toArray := hf 9 _ (hd 9 rfl) rfl
              have h17 : ls 17 = false := hcl.no hi rfl rfl
              rw [swW_15 h17, swW_0 h17 hi]
              have l := sa23.out
              have l2 := nb23
              go_simp
            · intro a0 ls hcl hi hd hoff hf
              left
              refine ⟨rfl, ?_⟩
              have e0 : a0.tmps.getD 115 undef = .slice (some ⟨blk, off, none⟩) d.size cap := hf 2 _ (hd 2 rfl) rfl
              have e1 : a0.tmps.getD 117 undef = .int .i64 (u : Int) := hf 4 _ (hd 4 rfl) rfl
              rw [swW_other (i := 16) (by decide) (by decide)]
              generalize swW wr.drew w1 w2 ls = WW
              go_simp
              first | rfl | exact ⟨rfl, rfl⟩
            · intro a0 ls hcl hi hd hoff hf
              left
              refine ⟨rfl, ?_⟩
              have e0 : a0.tmps.getD 128 undef = .pointer (some ⟨blk, off + u * k, none⟩) := hf 16 _ (hd 16 rfl) rfl
              have e1 : a0.tmps.getD 126 undef = .agg cI.toArray := hf 13 _ (hd 13 rfl) rfl
              have h15 : ls 15 = true := hd 15 rfl
              rw [swW_17, swW_1 hi h15]
              have l := sb23.out
              have l2 := na23
              go_simp
          · intro a0 ls hl hoff hf
            rw [swW_2 (hl 17 (by decide))]
            obtain ⟨ys, _, ha⟩ := off_form hoff (mask := [false, false, false, false, false, false, false, false, false, false, false, false, false, false, false, false, false, false, false, false, false, false, false, false, false, false, false, false, false, false, false, false, false, false, false, false, false, false, false, false, false, false, false, false, false, false, false, false, false, false, false, false, false, false, false, false, false, false, false, false, false, false, false, false, false, false, false, false, false, false, false, false, false, false, false, false, false, false, false, false, false, false, false, false, false, false, false, false, false, false, false, false, false, false, false, false, false, false, false, false, false, false, false, false, false, false, false, false, false, false, false, false, false, true, true, true, true, true, true, true, true, true, true, true, true, true, true, true, true, false, false, false, false, false, false, false, false, false, false, false, false, false, false, false, false, false, false, false, false, false, false, false, false, false, false, false, false, false, false, false, false, false, false, false, false, false, false, false, false, false, false, false, false, false, false, false, false, false, false, false, false, false, false, false, false, false, false, false, false, false, false, false, false, false, false, false, false, false, false, false, false, false, false, false, false, false, false, false, false, false, false, false, false, false, false, false, false, false, false, false]) (by kernel_rfl)
            clear hf hoff hl la23 lb23 sa23 sb23 na23 nb23
            subst ha
            simp only [fillFrom, Nat.zero_add, Nat.reduceAdd]
            go_wp2

            go_roundg (u - j)
            case measure => have := HY.out; omega
            case rel => exact ⟨u, swp dk t u, rfl, by have := HY.out; omega, by have := HY.out; omega, Nat.le_refl _, by rw [size_swp]; exact hds, S2, (by
              have hu := HY.out
              subst hu
              have := F1.out.back (by omega)
              rw [show m - u = m - (u + 1) + 1 by omega]; exact this : Aside _)⟩
        · have hl2z : ¬ (j : Int) < (t : Int) := by omega
          go_wp2
          (try simp only [Exit.inBlock, Exit.then])
          refine bodyPost_ret (results_none rfl _ _ _) rfl ?_
          obtain rfl : t = j := by omega
          have em : t + (m - t) = m := by omega
          obtain ⟨r1, r2⟩ := one_right hO (a := a) F1.out hmi (by rw [em]; exact HU.out) (fun u hu hu2 => by rw [em]; exact I.out.1 u hu hu2) (fun u hu hu2 => by rw [em]; exact I.out.2 u hu (by omega))
          rw [em] at r1 r2
          have h1 := H1.out
          subst h1
          exact ⟨rfl, dk, S1.out, r1, r2⟩
end Go.Proofs.Ytbfhlleipeipbaa

/- What is proved: the contract of slices.symMergeCmpFunc at store.Change: two sorted neighbours become one sorted row, stable. Conditions: those in each statement. -/
namespace Go.Proofs.Ytbfhlleipeipbaa
open Go.Shelf Go.RowKit Go.Lib Go.Sort
variable {P : Program} {k : Nat}

set_option maxHeartbeats 16000000 in
set_option maxRecDepth 1000000 in
theorem sym_gen1 (L : SL P k) (cf : Cg → Cg → Int) (hO : SWO (ltOf cf)) (g : Nat) (cb : Array Value) (blk off cap : Nat) (d0 : Array Cg) (w0 : World)
    (eg : ∀ args w, (callFunc g args).run P w = .ok (.enter g args) w) (hcmp : CmpLays P g cb encC k cf blk off d0.size w0) (R : RowK encC k w0 blk off d0)
    (a m b : Nat) (d : Array Cg) (w : World) (hs : d0.size = d.size) (S : SWK encC k w0 blk off d w) (ham : a < m) (hmb : m < b) (hb : b ≤ d.size) (hsz : d.size < 4611686018427387904) (hU : SortedIn (ltOf cf) a m d) (hV : SortedIn (ltOf cf) m b d) (h0 : ¬ m = a + 1) (h1 : ¬ b = m + 1) (mid : Nat) (hmid : mid = (a + b) / 2) (hbr : mid < m)
    (ih : ∀ (a' m' b' : Nat) (d' : Array Cg) (w' : World), b' - a' < b - a → d0.size = d'.size → SWK encC k w0 blk off d' w' → a' < m' → m' < b' → b' ≤ d'.size → d'.size < 4611686018427387904 → SortedIn (ltOf cf) a' m' d' → SortedIn (ltOf cf) m' b' d' →
      Calls P 106 #[.slice (some ⟨blk, off, none⟩) d'.size cap, .int .i64 a', .int .i64 m', .int .i64 b', .func (.func g) #[] cb] w' fun e w'' => e = .returned (.tuple #[]) ∧ ∃ d'', SWK encC k w0 blk off d'' w'' ∧ StbIn (ltOf cf) a' (b' - a') d' d'' ∧ SortedIn (ltOf cf) a' b' d'') :
    Calls P 106 #[.slice (some ⟨blk, off, none⟩) d.size cap, .int .i64 a, .int .i64 m, .int .i64 b, .func (.func g) #[] cb] w fun e w' => e = .returned (.tuple #[]) ∧ ∃ d', SWK encC k w0 blk off d' w' ∧ StbIn (ltOf cf) a (b - a) d d' ∧ SortedIn (ltOf cf) a b d' := by
  have mixed := L.mixed; have t3 := L.t3; have a3 := L.a3; have z3 := L.z3; have v3 := L.v3; have t4 := L.t4; have a4 := L.a4; have z4 := L.z4; have v4 := L.v4; have t36 := L.t36; have a36 := L.a36; have z36 := L.z36; have v36 := L.v36; have t119 := L.t119; have a119 := L.a119; have z119 := L.z119; have v119 := L.v119; have t150 := L.t150; have a150 := L.a150; have z150 := L.z150; have v150 := L.v150; have aE := L.aE; have zE := L.zE
  have HC : Aside _ := hcmp
  have S0 : Aside _ := S
  have HU : Aside _ := hU
  have HW : Aside _ := hV
  clear hcmp S hU hV
  have IH : Aside _ := ih
  clear ih
  have e107 : ∀ args w, (callFunc 107 args).run P w = .ok (.enter 107 args) w := enters_of L.f107 (by kernel_rfl) rfl
  have e106 : ∀ args w, (callFunc 106 args).run P w = .ok (.enter 106 args) w := enters_of L.f106 (by kernel_rfl) rfl
  have HR : Aside _ := fun (dk : Array Cg) (wr : World) (x y z : Nat) (h1 : dk.size = d.size) (h2 : SWK encC k w0 blk off dk wr) (h3 : x < y) (h4 : y < z) (h5 : z ≤ dk.size) => rotate_any L g cb blk off cap x y z d0 dk w0 wr R (hs.trans h1.symm) h2 h3 h4 h5 (h1 ▸ hsz)
  have q0 : ¬ (m : Int) - (a : Int) = 1 := by omega
  have q1 : ¬ (b : Int) - (m : Int) = 1 := by omega
  have q0b : ((m : Int) - (a : Int) == 1) = false := beq_false_of_ne q0
  have q1b : ((b : Int) - (m : Int) == 1) = false := beq_false_of_ne q1
  have emid : ((a : Int) + (b : Int)) / 2 = (mid : Int) := by omega
  obtain ⟨p, hp⟩ : ∃ p, p = mid + m - 1 := ⟨_, rfl⟩
  have ep : (mid : Int) + (m : Int) - 1 = (p : Int) := by omega
  have HM : Aside _ := hmid
  have hbz : (mid : Int) < (m : Int) := by omega
  have hbd : decide ((mid : Int) < (m : Int)) = true := decide_eq_true hbz
  obtain ⟨s0, hs0⟩ : ∃ s0, s0 = mid + m - b := ⟨_, rfl⟩
  obtain ⟨r0, hr0⟩ : ∃ r0, r0 = mid := ⟨_, rfl⟩
  have es0 : (mid : Int) + (m : Int) - (b : Int) = (s0 : Int) := by omega
  have b1 : a ≤ s0 := by omega
  have b2 : s0 ≤ r0 := by omega
  have b3 : r0 ≤ m := by omega
  have b4 : p + 1 = mid + m := by omega
  have b5 : p < b + s0 := by omega
  have b6 : m + r0 ≤ p + 1 := by omega
  have HCC : Aside ((s0 + b = mid + m ∧ r0 = mid ∧ mid < m) ∨ (s0 = a ∧ r0 = m ∧ m ≤ mid ∧ mid + m ≤ a + b)) := Or.inl ⟨by omega, hr0, hbr⟩
  have hmb' : mid < b := by omega
  have ham' : a < mid := by omega
  have ERM : Aside (r0 = mid) := hr0
  clear hmid hp hs0 hr0
  go_enter L.f106, Try.ntmps106
  go_wp2
  clear q0 q1 q0b q1b hbz hbd
  go_loopg [20, 21] (r0 - s0) (fun kx v20 v21 wr => ∃ s r : Nat, v20 = .int .i64 s ∧ v21 = .int .i64 r ∧ s0 ≤ s ∧ s ≤ r ∧ r ≤ r0 ∧ r - s ≤ kx ∧ Aside (SWK encC k w0 blk off d wr) ∧ Aside ((∀ t, s0 ≤ t → t < s → ltOf cf d[p - t]! d[t]! = false) ∧ ∀ t, r ≤ t → t < r0 → ltOf cf d[p - t]! d[t]! = true))
  case atStart => exact ⟨s0, r0, rfl, by rw [ERM.out], Nat.le_refl _, b2, Nat.le_refl _, Nat.le_refl _, S0, (⟨fun t h1 h2 => by omega, fun t h1 h2 => by omega⟩ : (∀ t, s0 ≤ t → t < s0 → ltOf cf d[p - t]! d[t]! = false) ∧ ∀ t, r0 ≤ t → t < r0 → ltOf cf d[p - t]! d[t]! = true)⟩
  case round =>
    clear S0
    obtain ⟨s, r, rfl, rfl, hss, hsr, hrr, hkx, S1, I⟩ := hrel
    by_cases hlt : s < r
    · have hltz : (s : Int) < (r : Int) := by omega
      obtain ⟨c, hc⟩ : ∃ c, c = (s + r) / 2 := ⟨_, rfl⟩
      have ec : ((s : Int) + (r : Int)) / 2 = (c : Int) := by omega
      have hs1 : s ≤ c := by omega
      have hr1 : c < r := by omega
      clear hc
      obtain ⟨q, hq⟩ : ∃ q, q = p - c := ⟨_, rfl⟩
      have eq : (p : Int) - (c : Int) = (q : Int) := by omega
      have hqm : m ≤ q := by omega
      have hqb : q < b := by omega
      have HQ : Aside _ := hq
      clear hq
      cases hlv : ltOf cf d[q]! d[c]! with
      | false =>
        have pa5 : (0 : Int) ≤ (q : Int) := by omega
        have ba5 : (q : Int) < (d.size : Int) := by omega
        have ra5 : IntKind.i64.wrap (q : Int) = (q : Int) := by rw [IntKind.wrap_i64]; omega
        have pc5 : (0 : Int) ≤ (c : Int) := by omega
        have bc5 : (c : Int) < (d.size : Int) := by omega
        obtain ⟨x5, hx5⟩ : ∃ x, x = d[q]! := ⟨_, rfl⟩
        obtain ⟨y5, hy5⟩ : ∃ x, x = d[c]! := ⟨_, rfl⟩
        have l5a := S1.out.ld R (by omega) P (q) (by omega)
        have l5b := S1.out.ld R (by omega) P (c) (by omega)
        rw [← hx5] at l5a
        rw [← hy5] at l5b
        have hc5 := S1.out.cmp HC.out (by omega) x5 y5
        have hv5 : ¬ cf x5 y5 < 0 := by rw [hx5, hy5]; exact of_decide_eq_false hlv
        have hd5 : decide (cf x5 y5 < 0) = false := decide_eq_false hv5
        clear hx5 hy5
        have HLV : Aside _ := hlv
        clear hlv
        go_wp2_with fail
        go_quiet_grown (first | (go_at_fn g; refine Calls.grown_of (hc5 _ _)))
        have S2 : Aside (SWK encC k w0 blk off d (grow (wr.drewN nq) osq)) := S1.out.grown nq osq
        clear l5a l5b hc5 S1 hv5 hd5
        generalize grow (wr.drewN nq) osq = w2 at S2 ⊢
        clear nq osq
        go_wp2

        go_roundg (r - (c + 1))
        case measure => omega
        case rel => exact ⟨c + 1, r, by first | rfl | go_num | (congr 1; omega), rfl, by omega, by omega, hrr, Nat.le_refl _, S2, (⟨find_low hO HU.out HW.out (by omega) (by omega) (by have := HQ.out; omega) s0 b1 b5 (by rw [← HQ.out]; exact HLV.out), I.out.2⟩ : (∀ t, s0 ≤ t → t < c + 1 → ltOf cf d[p - t]! d[t]! = false) ∧ ∀ t, r ≤ t → t < r0 → ltOf cf d[p - t]! d[t]! = true)⟩
      | true =>
        have pa5 : (0 : Int) ≤ (q : Int) := by omega
        have ba5 : (q : Int) < (d.size : Int) := by omega
        have ra5 : IntKind.i64.wrap (q : Int) = (q : Int) := by rw [IntKind.wrap_i64]; omega
        have pc5 : (0 : Int) ≤ (c : Int) := by omega
        have bc5 : (c : Int) < (d.size : Int) := by omega
        obtain ⟨x5, hx5⟩ : ∃ x, x = d[q]! := ⟨_, rfl⟩
        obtain ⟨y5, hy5⟩ : ∃ x, x = d[c]! := ⟨_, rfl⟩
        have l5a := S1.out.ld R (by omega) P (q) (by omega)
        have l5b := S1.out.ld R (by omega) P (c) (by omega)
        rw [← hx5] at l5a
        rw [← hy5] at l5b
        have hc5 := S1.out.cmp HC.out (by omega) x5 y5
        have hv5 : cf x5 y5 < 0 := by rw [hx5, hy5]; exact of_decide_eq_true hlv
        have hd5 : decide (cf x5 y5 < 0) = true := decide_eq_true hv5
        clear hx5 hy5
        have HLV : Aside _ := hlv
        clear hlv
        go_wp2_with fail
        go_quiet_grown (first | (go_at_fn g; refine Calls.grown_of (hc5 _ _)))
        have S2 : Aside (SWK encC k w0 blk off d (grow (wr.drewN nq) osq)) := S1.out.grown nq osq
        clear l5a l5b hc5 S1 hv5 hd5
        generalize grow (wr.drewN nq) osq = w2 at S2 ⊢
        clear nq osq
        go_wp2

        go_roundg (c - s)
        case measure => omega
        case rel => exact ⟨s, c, rfl, rfl, hss, hs1, by omega, Nat.le_refl _, S2, (⟨I.out.1, find_high hO HU.out HW.out (by omega) (by omega) r0 b3 b6 (by rw [← HQ.out]; exact HLV.out)⟩ : (∀ t, s0 ≤ t → t < s → ltOf cf d[p - t]! d[t]! = false) ∧ ∀ t, c ≤ t → t < r0 → ltOf cf d[p - t]! d[t]! = true)⟩
    · have hltz : ¬ (s : Int) < (r : Int) := by omega
      obtain rfl : r = s := by omega
      obtain ⟨e, he⟩ : ∃ e, e = mid + m - r := ⟨_, rfl⟩
      have hrm : r ≤ m := by omega
      have hme : m ≤ e := by have := HCC.out; omega
      have heb : e ≤ b := by have := HCC.out; omega
      have her : e + r = mid + m := by omega
      have hra : a ≤ r := by omega
      have ee : (mid : Int) + (m : Int) - (r : Int) = (e : Int) := by omega
      obtain ⟨c1, c2⟩ := gen_cut hO HU.out HW.out b4 hss hrr b1 b3 HCC.out I.out.1 I.out.2
      rw [← he] at c1 c2
      have C12 : Aside _ := And.intro c1 c2
      clear c1 c2 he I
      have G : Aside _ := fun (d1 : Array Cg) (hr : Rotated r (m - r) (e - m) d d1) => gen_rot hO hr HU.out HW.out hra hrm hme heb her C12.out.1 C12.out.2
      clear C12
      by_cases hA2 : r < m
      · have zA2 : (r : Int) < (m : Int) := by omega
        by_cases hB1 : m < e
        · have zB1 : (m : Int) < (e : Int) := by omega
          have hrmid : r < mid := by omega
          have zrmid : (r : Int) < (mid : Int) := by omega
          have hmide : mid < e := by omega
          have zmide : (mid : Int) < (e : Int) := by omega
          have hrot := HR.out d wr r m e rfl S1.out hA2 hB1 (by omega)
          clear S1
          by_cases hA1 : a < r
          · have zA1 : (a : Int) < (r : Int) := by omega
            go_wp2_with (go_at_fn 107; refine hrot.mono ?_; clear hrot; rintro ex w' ⟨rfl, d1, hS1, hR1⟩)
            have S2 : Aside _ := hS1
            have G1 : Aside _ := G.out d1 hR1
            have Z1 : Aside (d1.size = d.size) := hR1.1
            clear hS1 hR1
            have h6 := IH.out a r mid d1 w' (by omega) (by rw [Z1.out]; exact hs) S2.out hA1 hrmid (by rw [Z1.out]; omega) (by rw [Z1.out]; exact hsz) G1.out.2.1 G1.out.2.2.1
            rw [Z1.out] at h6
            clear S2
            by_cases hB2 : e < b
            · have zB2 : (e : Int) < (b : Int) := by omega
              go_wp2_with (go_at_fn 106; refine h6.mono ?_; clear h6; rintro ex w2 ⟨rfl, d2, hS2, hst2, hso2⟩)
              have X2 : Aside _ := And.intro hS2 (And.intro hst2 hso2)
              clear hS2 hst2 hso2
              have Z2 : Aside (d2.size = d.size) := X2.out.2.1.1.trans Z1.out
              have h7 := IH.out mid e b d2 w2 (by omega) (by rw [Z2.out]; exact hs) X2.out.1 hmide hB2 (by rw [Z2.out]; omega) (by rw [Z2.out]; exact hsz) (fun x y h1 h2 h3 => by rw [X2.out.2.1.2.1 x (by omega), X2.out.2.1.2.1 y (by omega)]; exact G1.out.2.2.2.1 x y h1 h2 h3) (fun x y h1 h2 h3 => by rw [X2.out.2.1.2.1 x (by omega), X2.out.2.1.2.1 y (by omega)]; exact G1.out.2.2.2.2.1 x y h1 h2 h3)
              rw [Z2.out] at h7
              go_wp2_with (go_at_fn 106; refine h7.mono ?_; clear h7; rintro ex w3 ⟨rfl, d3, hS3, hst3, hso3⟩)
              go_end0
              obtain ⟨f1, f2⟩ := gen_done hO (by omega) (by omega) G1.out.2.2.2.2.2 X2.out.2.1 X2.out.2.2 hst3 hso3
              exact ⟨rfl, d3, hS3, G1.out.1.trans f1, f2⟩
            · have zB2 : ¬ (e : Int) < (b : Int) := by omega
              go_wp2_with (go_at_fn 106; refine h6.mono ?_; clear h6; rintro ex w2 ⟨rfl, d2, hS2, hst2, hso2⟩)
              go_end0
              obtain rfl : e = b := by omega
              obtain ⟨f1, f2⟩ := gen_done hO (by omega) (by omega) G1.out.2.2.2.2.2 hst2 hso2 (StbIn.refl mid (e - mid) d2) (fun x y h1 h2 h3 => by rw [hst2.2.1 x (by omega), hst2.2.1 y (by omega)]; exact G1.out.2.2.2.1 x y h1 h2 h3)
              exact ⟨rfl, d2, hS2, G1.out.1.trans f1, f2⟩
          · have zA1 : ¬ (a : Int) < (r : Int) := by omega
            by_cases hB2 : e < b
            · have zB2 : (e : Int) < (b : Int) := by omega
              go_wp2_with (go_at_fn 107; refine hrot.mono ?_; clear hrot; rintro ex w' ⟨rfl, d1, hS1, hR1⟩)
              have S2 : Aside _ := hS1
              have G1 : Aside _ := G.out d1 hR1
              have Z1 : Aside (d1.size = d.size) := hR1.1
              clear hS1 hR1
              have HSO : Aside (SortedIn (ltOf cf) a mid d1) := fun x y h1 h2 h3 => G1.out.2.2.1 x y (by omega) h2 h3
              have h7 := IH.out mid e b d1 w' (by omega) (by rw [Z1.out]; exact hs) S2.out hmide hB2 (by rw [Z1.out]; omega) (by rw [Z1.out]; exact hsz) G1.out.2.2.2.1 G1.out.2.2.2.2.1
              rw [Z1.out] at h7
              clear S2
              go_wp2_with (go_at_fn 106; refine h7.mono ?_; clear h7; rintro ex w3 ⟨rfl, d3, hS3, hst3, hso3⟩)
              go_end0
              obtain ⟨f1, f2⟩ := gen_done hO (by omega) (by omega) G1.out.2.2.2.2.2 (StbIn.refl a (mid - a) d1) HSO.out hst3 hso3
              exact ⟨rfl, d3, hS3, G1.out.1.trans f1, f2⟩
            · have zB2 : ¬ (e : Int) < (b : Int) := by omega
              go_wp2_with (go_at_fn 107; refine hrot.mono ?_; clear hrot; rintro ex w' ⟨rfl, d1, hS1, hR1⟩)
              go_end0
              obtain rfl : e = b := by omega
              have G1 := G.out d1 hR1
              obtain ⟨f1, f2⟩ := gen_done hO (by omega) (by omega) G1.2.2.2.2.2 (StbIn.refl a (mid - a) d1) (fun x y h1 h2 h3 => G1.2.2.1 x y (by omega) h2 h3) (StbIn.refl mid (e - mid) d1) G1.2.2.2.1
              exact ⟨rfl, d1, hS1, G1.1.trans f1, f2⟩
        · have zB1 : ¬ (m : Int) < (e : Int) := by omega
          obtain rfl : r = mid := by omega
          obtain rfl : e = m := by omega
          have zar : (a : Int) < (r : Int) := by omega
          have zre : (r : Int) < (e : Int) := by omega
          have zeb : (e : Int) < (b : Int) := by omega
          have G1 : Aside _ := G.out d (by rw [Nat.sub_self]; exact Rotated.none_right r (e - r) d)
          have h7 := IH.out r e b d wr (by omega) hs S1.out (by omega) (by omega) hb hsz G1.out.2.2.2.1 G1.out.2.2.2.2.1
          clear S1
          go_wp2_with (go_at_fn 106; refine h7.mono ?_; clear h7; rintro ex w3 ⟨rfl, d3, hS3, hst3, hso3⟩)
          go_end0
          obtain ⟨f1, f2⟩ := gen_done hO (by omega) (by omega) G1.out.2.2.2.2.2 (StbIn.refl a (r - a) d) G1.out.2.1 hst3 hso3
          exact ⟨rfl, d3, hS3, f1, f2⟩
      · exact absurd hA2 (by have := HCC.out; omega)
set_option maxHeartbeats 16000000 in
set_option maxRecDepth 1000000 in
theorem sym_gen2 (L : SL P k) (cf : Cg → Cg → Int) (hO : SWO (ltOf cf)) (g : Nat) (cb : Array Value) (blk off cap : Nat) (d0 : Array Cg) (w0 : World)
    (eg : ∀ args w, (callFunc g args).run P w = .ok (.enter g args) w) (hcmp : CmpLays P g cb encC k cf blk off d0.size w0) (R : RowK encC k w0 blk off d0)
    (a m b : Nat) (d : Array Cg) (w : World) (hs : d0.size = d.size) (S : SWK encC k w0 blk off d w) (ham : a < m) (hmb : m < b) (hb : b ≤ d.size) (hsz : d.size < 4611686018427387904) (hU : SortedIn (ltOf cf) a m d) (hV : SortedIn (ltOf cf) m b d) (h0 : ¬ m = a + 1) (h1 : ¬ b = m + 1) (mid : Nat) (hmid : mid = (a + b) / 2) (hbr : m ≤ mid)
    (ih : ∀ (a' m' b' : Nat) (d' : Array Cg) (w' : World), b' - a' < b - a → d0.size = d'.size → SWK encC k w0 blk off d' w' → a' < m' → m' < b' → b' ≤ d'.size → d'.size < 4611686018427387904 → SortedIn (ltOf cf) a' m' d' → SortedIn (ltOf cf) m' b' d' →
      Calls P 106 #[.slice (some ⟨blk, off, none⟩) d'.size cap, .int .i64 a', .int .i64 m', .int .i64 b', .func (.func g) #[] cb] w' fun e w'' => e = .returned (.tuple #[]) ∧ ∃ d'', SWK encC k w0 blk off d'' w'' ∧ StbIn (ltOf cf) a' (b' - a') d' d'' ∧ SortedIn (ltOf cf) a' b' d'') :
    Calls P 106 #[.slice (some ⟨blk, off, none⟩) d.size cap, .int .i64 a, .int .i64 m, .int .i64 b, .func (.func g) #[] cb] w fun e w' => e = .returned (.tuple #[]) ∧ ∃ d', SWK encC k w0 blk off d' w' ∧ StbIn (ltOf cf) a (b - a) d d' ∧ SortedIn (ltOf cf) a b d' := by
  have mixed := L.mixed; have t3 := L.t3; have a3 := L.a3; have z3 := L.z3; have v3 := L.v3; have t4 := L.t4; have a4 := L.a4; have z4 := L.z4; have v4 := L.v4; have t36 := L.t36; have a36 := L.a36; have z36 := L.z36; have v36 := L.v36; have t119 := L.t119; have a119 := L.a119; have z119 := L.z119; have v119 := L.v119; have t150 := L.t150; have a150 := L.a150; have z150 := L.z150; have v150 := L.v150; have aE := L.aE; have zE := L.zE
  have HC : Aside _ := hcmp
  have S0 : Aside _ := S
  have HU : Aside _ := hU
  have HW : Aside _ := hV
  clear hcmp S hU hV
  have IH : Aside _ := ih
  clear ih
  have e107 : ∀ args w, (callFunc 107 args).run P w = .ok (.enter 107 args) w := enters_of L.f107 (by kernel_rfl) rfl
  have e106 : ∀ args w, (callFunc 106 args).run P w = .ok (.enter 106 args) w := enters_of L.f106 (by kernel_rfl) rfl
  have HR : Aside _ := fun (dk : Array Cg) (wr : World) (x y z : Nat) (h1 : dk.size = d.size) (h2 : SWK encC k w0 blk off dk wr) (h3 : x < y) (h4 : y < z) (h5 : z ≤ dk.size) => rotate_any L g cb blk off cap x y z d0 dk w0 wr R (hs.trans h1.symm) h2 h3 h4 h5 (h1 ▸ hsz)
  have q0 : ¬ (m : Int) - (a : Int) = 1 := by omega
  have q1 : ¬ (b : Int) - (m : Int) = 1 := by omega
  have q0b : ((m : Int) - (a : Int) == 1) = false := beq_false_of_ne q0
  have q1b : ((b : Int) - (m : Int) == 1) = false := beq_false_of_ne q1
  have emid : ((a : Int) + (b : Int)) / 2 = (mid : Int) := by omega
  obtain ⟨p, hp⟩ : ∃ p, p = mid + m - 1 := ⟨_, rfl⟩
  have ep : (mid : Int) + (m : Int) - 1 = (p : Int) := by omega
  have HM : Aside _ := hmid
  have hbz : ¬ (mid : Int) < (m : Int) := by omega
  have hbd : decide ((mid : Int) < (m : Int)) = false := decide_eq_false hbz
  obtain ⟨s0, hs0⟩ : ∃ s0, s0 = a := ⟨_, rfl⟩
  obtain ⟨r0, hr0⟩ : ∃ r0, r0 = m := ⟨_, rfl⟩
  have b1 : a ≤ s0 := by omega
  have b2 : s0 ≤ r0 := by omega
  have b3 : r0 ≤ m := by omega
  have b4 : p + 1 = mid + m := by omega
  have b5 : p < b + s0 := by omega
  have b6 : m + r0 ≤ p + 1 := by omega
  have HCC : Aside ((s0 + b = mid + m ∧ r0 = mid ∧ mid < m) ∨ (s0 = a ∧ r0 = m ∧ m ≤ mid ∧ mid + m ≤ a + b)) := Or.inr ⟨hs0, hr0, hbr, by omega⟩
  have hmb' : mid < b := by omega
  have ham' : a < mid := by omega
  have ER : Aside (s0 = a ∧ r0 = m) := ⟨hs0, hr0⟩
  clear hmid hp hs0 hr0
  go_enter L.f106, Try.ntmps106
  go_wp2
  clear q0 q1 q0b q1b hbz hbd
  go_loopg [20, 21] (r0 - s0) (fun kx v20 v21 wr => ∃ s r : Nat, v20 = .int .i64 s ∧ v21 = .int .i64 r ∧ s0 ≤ s ∧ s ≤ r ∧ r ≤ r0 ∧ r - s ≤ kx ∧ Aside (SWK encC k w0 blk off d wr) ∧ Aside ((∀ t, s0 ≤ t → t < s → ltOf cf d[p - t]! d[t]! = false) ∧ ∀ t, r ≤ t → t < r0 → ltOf cf d[p - t]! d[t]! = true))
  case atStart => exact ⟨s0, r0, by rw [ER.out.1], by rw [ER.out.2], Nat.le_refl _, b2, Nat.le_refl _, Nat.le_refl _, S0, (⟨fun t h1 h2 => by omega, fun t h1 h2 => by omega⟩ : (∀ t, s0 ≤ t → t < s0 → ltOf cf d[p - t]! d[t]! = false) ∧ ∀ t, r0 ≤ t → t < r0 → ltOf cf d[p - t]! d[t]! = true)⟩
  case round =>
    clear S0
    obtain ⟨s, r, rfl, rfl, hss, hsr, hrr, hkx, S1, I⟩ := hrel
    by_cases hlt : s < r
    · have hltz : (s : Int) < (r : Int) := by omega
      obtain ⟨c, hc⟩ : ∃ c, c = (s + r) / 2 := ⟨_, rfl⟩
      have ec : ((s : Int) + (r : Int)) / 2 = (c : Int) := by omega
      have hs1 : s ≤ c := by omega
      have hr1 : c < r := by omega
      clear hc
      obtain ⟨q, hq⟩ : ∃ q, q = p - c := ⟨_, rfl⟩
      have eq : (p : Int) - (c : Int) = (q : Int) := by omega
      have hqm : m ≤ q := by omega
      have hqb : q < b := by omega
      have HQ : Aside _ := hq
      clear hq
      cases hlv : ltOf cf d[q]! d[c]! with
      | false =>
        have pa5 : (0 : Int) ≤ (q : Int) := by omega
        have ba5 : (q : Int) < (d.size : Int) := by omega
        have ra5 : IntKind.i64.wrap (q : Int) = (q : Int) := by rw [IntKind.wrap_i64]; omega
        have pc5 : (0 : Int) ≤ (c : Int) := by omega
        have bc5 : (c : Int) < (d.size : Int) := by omega
        obtain ⟨x5, hx5⟩ : ∃ x, x = d[q]! := ⟨_, rfl⟩
        obtain ⟨y5, hy5⟩ : ∃ x, x = d[c]! := ⟨_, rfl⟩
        have l5a := S1.out.ld R (by omega) P (q) (by omega)
        have l5b := S1.out.ld R (by omega) P (c) (by omega)
        rw [← hx5] at l5a
        rw [← hy5] at l5b
        have hc5 := S1.out.cmp HC.out (by omega) x5 y5
        have hv5 : ¬ cf x5 y5 < 0 := by rw [hx5, hy5]; exact of_decide_eq_false hlv
        have hd5 : decide (cf x5 y5 < 0) = false := decide_eq_false hv5
        clear hx5 hy5
        have HLV : Aside _ := hlv
        clear hlv
        go_wp2_with fail
        go_quiet_grown (first | (go_at_fn g; refine Calls.grown_of (hc5 _ _)))
        have S2 : Aside (SWK encC k w0 blk off d (grow (wr.drewN nq) osq)) := S1.out.grown nq osq
        clear l5a l5b hc5 S1 hv5 hd5
        generalize grow (wr.drewN nq) osq = w2 at S2 ⊢
        clear nq osq
        go_wp2

        go_roundg (r - (c + 1))
        case measure => omega
        case rel => exact ⟨c + 1, r, by first | rfl | go_num | (congr 1; omega), rfl, by omega, by omega, hrr, Nat.le_refl _, S2, (⟨find_low hO HU.out HW.out (by omega) (by omega) (by have := HQ.out; omega) s0 b1 b5 (by rw [← HQ.out]; exact HLV.out), I.out.2⟩ : (∀ t, s0 ≤ t → t < c + 1 → ltOf cf d[p - t]! d[t]! = false) ∧ ∀ t, r ≤ t → t < r0 → ltOf cf d[p - t]! d[t]! = true)⟩
      | true =>
        have pa5 : (0 : Int) ≤ (q : Int) := by omega
        have ba5 : (q : Int) < (d.size : Int) := by omega
        have ra5 : IntKind.i64.wrap (q : Int) = (q : Int) := by rw [IntKind.wrap_i64]; omega
        have pc5 : (0 : Int) ≤ (c : Int) := by omega
        have bc5 : (c : Int) < (d.size : Int) := by omega
        obtain ⟨x5, hx5⟩ : ∃ x, x = d[q]! := ⟨_, rfl⟩
        obtain ⟨y5, hy5⟩ : ∃ x, x = d[c]! := ⟨_, rfl⟩
        have l5a := S1.out.ld R (by omega) P (q) (by omega)
        have l5b := S1.out.ld R (by omega) P (c) (by omega)
        rw [← hx5] at l5a
        rw [← hy5] at l5b
        have hc5 := S1.out.cmp HC.out (by omega) x5 y5
        have hv5 : cf x5 y5 < 0 := by rw [hx5, hy5]; exact of_decide_eq_true hlv
        have hd5 : decide (cf x5 y5 < 0) = true := decide_eq_true hv5
        clear hx5 hy5
        have HLV : Aside _ := hlv
        clear hlv
        go_wp2_with fail
        go_quiet_grown (first | (go_at_fn g; refine Calls.grown_of (hc5 _ _)))
        have S2 : Aside (SWK encC k w0 blk off d (grow (wr.drewN nq) osq)) := S1.out.grown nq osq
        clear l5a l5b hc5 S1 hv5 hd5
        generalize grow (wr.drewN nq) osq = w2 at S2 ⊢
        clear nq osq
        go_wp2

        go_roundg (c - s)
        case measure => omega
        case rel => exact ⟨s, c, rfl, rfl, hss, hs1, by omega, Nat.le_refl _, S2, (⟨I.out.1, find_high hO HU.out HW.out (by omega) (by omega) r0 b3 b6 (by rw [← HQ.out]; exact HLV.out)⟩ : (∀ t, s0 ≤ t → t < s → ltOf cf d[p - t]! d[t]! = false) ∧ ∀ t, c ≤ t → t < r0 → ltOf cf d[p - t]! d[t]! = true)⟩
    · have hltz : ¬ (s : Int) < (r : Int) := by omega
      obtain rfl : r = s := by omega
      obtain ⟨e, he⟩ : ∃ e, e = mid + m - r := ⟨_, rfl⟩
      have hrm : r ≤ m := by omega
      have hme : m ≤ e := by have := HCC.out; omega
      have heb : e ≤ b := by have := HCC.out; omega
      have her : e + r = mid + m := by omega
      have hra : a ≤ r := by omega
      have ee : (mid : Int) + (m : Int) - (r : Int) = (e : Int) := by omega
      obtain ⟨c1, c2⟩ := gen_cut hO HU.out HW.out b4 hss hrr b1 b3 HCC.out I.out.1 I.out.2
      rw [← he] at c1 c2
      have C12 : Aside _ := And.intro c1 c2
      clear c1 c2 he I
      have G : Aside _ := fun (d1 : Array Cg) (hr : Rotated r (m - r) (e - m) d d1) => gen_rot hO hr HU.out HW.out hra hrm hme heb her C12.out.1 C12.out.2
      clear C12
      by_cases hA2 : r < m
      · have zA2 : (r : Int) < (m : Int) := by omega
        by_cases hB1 : m < e
        · have zB1 : (m : Int) < (e : Int) := by omega
          have hrmid : r < mid := by omega
          have zrmid : (r : Int) < (mid : Int) := by omega
          have hmide : mid < e := by omega
          have zmide : (mid : Int) < (e : Int) := by omega
          have hrot := HR.out d wr r m e rfl S1.out hA2 hB1 (by omega)
          clear S1
          by_cases hA1 : a < r
          · have zA1 : (a : Int) < (r : Int) := by omega
            go_wp2_with (go_at_fn 107; refine hrot.mono ?_; clear hrot; rintro ex w' ⟨rfl, d1, hS1, hR1⟩)
            have S2 : Aside _ := hS1
            have G1 : Aside _ := G.out d1 hR1
            have Z1 : Aside (d1.size = d.size) := hR1.1
            clear hS1 hR1
            have h6 := IH.out a r mid d1 w' (by omega) (by rw [Z1.out]; exact hs) S2.out hA1 hrmid (by rw [Z1.out]; omega) (by rw [Z1.out]; exact hsz) G1.out.2.1 G1.out.2.2.1
            rw [Z1.out] at h6
            clear S2
            by_cases hB2 : e < b
            · have zB2 : (e : Int) < (b : Int) := by omega
              go_wp2_with (go_at_fn 106; refine h6.mono ?_; clear h6; rintro ex w2 ⟨rfl, d2, hS2, hst2, hso2⟩)
              have X2 : Aside _ := And.intro hS2 (And.intro hst2 hso2)
              clear hS2 hst2 hso2
              have Z2 : Aside (d2.size = d.size) := X2.out.2.1.1.trans Z1.out
              have h7 := IH.out mid e b d2 w2 (by omega) (by rw [Z2.out]; exact hs) X2.out.1 hmide hB2 (by rw [Z2.out]; omega) (by rw [Z2.out]; exact hsz) (fun x y h1 h2 h3 => by rw [X2.out.2.1.2.1 x (by omega), X2.out.2.1.2.1 y (by omega)]; exact G1.out.2.2.2.1 x y h1 h2 h3) (fun x y h1 h2 h3 => by rw [X2.out.2.1.2.1 x (by omega), X2.out.2.1.2.1 y (by omega)]; exact G1.out.2.2.2.2.1 x y h1 h2 h3)
              rw [Z2.out] at h7
              go_wp2_with (go_at_fn 106; refine h7.mono ?_; clear h7; rintro ex w3 ⟨rfl, d3, hS3, hst3, hso3⟩)
              go_end0
              obtain ⟨f1, f2⟩ := gen_done hO (by omega) (by omega) G1.out.2.2.2.2.2 X2.out.2.1 X2.out.2.2 hst3 hso3
              exact ⟨rfl, d3, hS3, G1.out.1.trans f1, f2⟩
            · have zB2 : ¬ (e : Int) < (b : Int) := by omega
              go_wp2_with (go_at_fn 106; refine h6.mono ?_; clear h6; rintro ex w2 ⟨rfl, d2, hS2, hst2, hso2⟩)
              go_end0
              obtain rfl : e = b := by omega
              obtain ⟨f1, f2⟩ := gen_done hO (by omega) (by omega) G1.out.2.2.2.2.2 hst2 hso2 (StbIn.refl mid (e - mid) d2) (fun x y h1 h2 h3 => by rw [hst2.2.1 x (by omega), hst2.2.1 y (by omega)]; exact G1.out.2.2.2.1 x y h1 h2 h3)
              exact ⟨rfl, d2, hS2, G1.out.1.trans f1, f2⟩
          · have zA1 : ¬ (a : Int) < (r : Int) := by omega
            by_cases hB2 : e < b
            · have zB2 : (e : Int) < (b : Int) := by omega
              go_wp2_with (go_at_fn 107; refine hrot.mono ?_; clear hrot; rintro ex w' ⟨rfl, d1, hS1, hR1⟩)
              have S2 : Aside _ := hS1
              have G1 : Aside _ := G.out d1 hR1
              have Z1 : Aside (d1.size = d.size) := hR1.1
              clear hS1 hR1
              have HSO : Aside (SortedIn (ltOf cf) a mid d1) := fun x y h1 h2 h3 => G1.out.2.2.1 x y (by omega) h2 h3
              have h7 := IH.out mid e b d1 w' (by omega) (by rw [Z1.out]; exact hs) S2.out hmide hB2 (by rw [Z1.out]; omega) (by rw [Z1.out]; exact hsz) G1.out.2.2.2.1 G1.out.2.2.2.2.1
              rw [Z1.out] at h7
              clear S2
              go_wp2_with (go_at_fn 106; refine h7.mono ?_; clear h7; rintro ex w3 ⟨rfl, d3, hS3, hst3, hso3⟩)
              go_end0
              obtain ⟨f1, f2⟩ := gen_done hO (by omega) (by omega) G1.out.2.2.2.2.2 (StbIn.refl a (mid - a) d1) HSO.out hst3 hso3
              exact ⟨rfl, d3, hS3, G1.out.1.trans f1, f2⟩
            · have zB2 : ¬ (e : Int) < (b : Int) := by omega
              go_wp2_with (go_at_fn 107; refine hrot.mono ?_; clear hrot; rintro ex w' ⟨rfl, d1, hS1, hR1⟩)
              go_end0
              obtain rfl : e = b := by omega
              have G1 := G.out d1 hR1
              obtain ⟨f1, f2⟩ := gen_done hO (by omega) (by omega) G1.2.2.2.2.2 (StbIn.refl a (mid - a) d1) (fun x y h1 h2 h3 => G1.2.2.1 x y (by omega) h2 h3) (StbIn.refl mid (e - mid) d1) G1.2.2.2.1
              exact ⟨rfl, d1, hS1, G1.1.trans f1, f2⟩
        · have zB1 : ¬ (m : Int) < (e : Int) := by omega
          obtain rfl : r = mid := by omega
          obtain rfl : e = m := by omega
          have zar : (a : Int) < (r : Int) := by omega
          have zre : (r : Int) < (e : Int) := by omega
          have zeb : (e : Int) < (b : Int) := by omega
          have G1 : Aside _ := G.out d (by rw [Nat.sub_self]; exact Rotated.none_right r (e - r) d)
          have h7 := IH.out r e b d wr (by omega) hs S1.out (by omega) (by omega) hb hsz G1.out.2.2.2.1 G1.out.2.2.2.2.1
          clear S1
          go_wp2_with (go_at_fn 106; refine h7.mono ?_; clear h7; rintro ex w3 ⟨rfl, d3, hS3, hst3, hso3⟩)
          go_end0
          obtain ⟨f1, f2⟩ := gen_done hO (by omega) (by omega) G1.out.2.2.2.2.2 (StbIn.refl a (r - a) d) G1.out.2.1 hst3 hso3
          exact ⟨rfl, d3, hS3, f1, f2⟩
      · have zA2 : ¬ (r : Int) < (m : Int) := by omega
        obtain rfl : r = m := by omega
        obtain rfl : e = mid := by omega
        have zaz : (a : Int) < (r : Int) := by omega
        have zee : ¬ (e : Int) < (e : Int) := by omega
        have G1 : Aside _ := G.out d (by rw [Nat.sub_self]; exact Rotated.none_left r (e - r) d)
        by_cases hre : r < e
        · have zre : (r : Int) < (e : Int) := by omega
          have h6 := IH.out a r e d wr (by omega) hs S1.out ham hre (by omega) hsz G1.out.2.1 G1.out.2.2.1
          clear S1
          go_wp2_with (go_at_fn 106; refine h6.mono ?_; clear h6; rintro ex w2 ⟨rfl, d2, hS2, hst2, hso2⟩)
          go_end0
          obtain ⟨f1, f2⟩ := gen_done hO (by omega) (by omega) G1.out.2.2.2.2.2 hst2 hso2 (StbIn.refl e (b - e) d2) (fun x y h1 h2 h3 => by rw [hst2.2.1 x (by omega), hst2.2.1 y (by omega)]; exact G1.out.2.2.2.2.1 x y h1 h2 h3)
          exact ⟨rfl, d2, hS2, f1, f2⟩
        · have zre : ¬ (r : Int) < (e : Int) := by omega
          go_wp2_with fail
          go_end0
          obtain rfl : e = r := by omega
          obtain ⟨f1, f2⟩ := gen_done hO (by omega) (by omega) G1.out.2.2.2.2.2 (StbIn.refl a (e - a) d) G1.out.2.1 (StbIn.refl e (b - e) d) G1.out.2.2.2.2.1
          exact ⟨rfl, d, S1.out, f1, f2⟩
end Go.Proofs.Ytbfhlleipeipbaa

/- What is proved: the contract of slices.symMergeCmpFunc at store.Change: two sorted neighbours become one sorted row, stable. Conditions: those in each statement. -/
namespace Go.Proofs.Ytbfhlleipeipbaa
open Go.Shelf Go.RowKit Go.Lib Go.Sort
variable {P : Program} {k : Nat}

theorem symMerge_any (L : SL P k) (cf : Cg → Cg → Int) (hO : SWO (ltOf cf)) (g : Nat) (cb : Array Value) (blk off cap : Nat) (d0 : Array Cg) (w0 : World)
    (eg : ∀ args w, (callFunc g args).run P w = .ok (.enter g args) w) (hcmp : CmpLays P g cb encC k cf blk off d0.size w0) (R : RowK encC k w0 blk off d0) (n : Nat) :
    ∀ (a m b : Nat) (d : Array Cg) (w : World), b - a < n → d0.size = d.size → SWK encC k w0 blk off d w → a < m → m < b → b ≤ d.size → d.size < 4611686018427387904 → SortedIn (ltOf cf) a m d → SortedIn (ltOf cf) m b d →
      Calls P 106 #[.slice (some ⟨blk, off, none⟩) d.size cap, .int .i64 a, .int .i64 m, .int .i64 b, .func (.func g) #[] cb] w fun e w' => e = .returned (.tuple #[]) ∧ ∃ d', SWK encC k w0 blk off d' w' ∧ StbIn (ltOf cf) a (b - a) d d' ∧ SortedIn (ltOf cf) a b d' := by
  induction n with
  | zero => intro a m b d w h; exact absurd h (Nat.not_lt_zero _)
  | succ n ih =>
    intro a m b d w hn hs S ham hmb hb hsz hU hV
    by_cases h0 : m = a + 1
    · exact sym_left L cf hO g cb blk off cap d0 w0 eg hcmp R a m b d w hs S ham hmb hb hsz hU hV h0
    · by_cases h1 : b = m + 1
      · exact sym_right L cf hO g cb blk off cap d0 w0 eg hcmp R a m b d w hs S ham hmb hb hsz hU hV h0 h1
      · have ih' := fun (a' m' b' : Nat) (d' : Array Cg) (w' : World) (hlt : b' - a' < b - a) => ih a' m' b' d' w' (by omega)
        by_cases hbr : (a + b) / 2 < m
        · exact sym_gen1 L cf hO g cb blk off cap d0 w0 eg hcmp R a m b d w hs S ham hmb hb hsz hU hV h0 h1 _ rfl hbr ih'
        · exact sym_gen2 L cf hO g cb blk off cap d0 w0 eg hcmp R a m b d w hs S ham hmb hb hsz hU hV h0 h1 _ rfl (by omega) ih'
end Go.Proofs.Ytbfhlleipeipbaa
