/-
  What is proved: the contracts of slices.BinarySearchFunc, slices.Reverse and slices.SortStableFunc at store.Change. Conditions: those in each statement.
-/
import Derived.Test.YtbfhlleipeipbaaM0
import Derived.Test.YtbfhlleipeipbaaSh
import Derived.Test.YtbfhlleipeipbaaKc
namespace Go.Proofs.Ytbfhlleipeipbaa
open Go.Shelf Go.RowKit Go.Lib Go.Sort

/-- What the walks below ask of a program beside SL. -/
structure SM (P : Program) (k : Nat) : Prop where
  sl : SL P k
  t9 : P.underlying 9 = some .string
  a9 : ∀ w, (isAgg 9).run P w = .ok false w
  z9 : ∀ w, (Go.sizeOf 9).run P w = .ok 1 w
  v9 : ∀ w, (zeroValue 9).run P w = .ok (.string ⟨#[]⟩) w
  t122 : P.underlying 122 = some (.func #[52, 9] #[3] false)
  a122 : ∀ w, (isAgg 122).run P w = .ok false w
  z122 : ∀ w, (Go.sizeOf 122).run P w = .ok 1 w
  v122 : ∀ w, (zeroValue 122).run P w = .ok .nilFunc w
  t152 : P.underlying 152 = some (.func #[52, 52] #[4] false)
  a152 : ∀ w, (isAgg 152).run P w = .ok false w
  z152 : ∀ w, (Go.sizeOf 152).run P w = .ok 1 w
  v152 : ∀ w, (zeroValue 152).run P w = .ok .nilFunc w
  f59 : P.funcs[59]? = some Try.f59
  f93 : P.funcs[93]? = some Try.f93
  f96 : P.funcs[96]? = some Try.f96
theorem sm_try : SM Try.prog 3 := ⟨sl_try, Try.underlying9, Try.isAgg9, Try.sizeOf9, Try.zeroValue9, Try.underlying122, Try.isAgg122, Try.sizeOf122, Try.zeroValue122, Try.underlying152, Try.isAgg152, Try.sizeOf152, Try.zeroValue152, Try.func59, Try.func93, Try.func96⟩
variable {P : Program} {k : Nat}

/-- What BinarySearchFunc finds. -/
def Found (cft : Cg → Int) (d : Array Cg) (i : Nat) : Prop := i ≤ d.size ∧ (∀ t, t < i → cft d[t]! < 0) ∧ ∀ t, i ≤ t → t < d.size → 0 ≤ cft d[t]!

set_option maxHeartbeats 4000000 in
set_option maxRecDepth 1000000 in
theorem bsearch_any (M : SM P k) (g : Nat) (tv : ByteArray) (cft : Cg → Int) (blk off cap : Nat) (d : Array Cg) (w0 : World) (eg : ∀ args w, (callFunc g args).run P w = .ok (.enter g args) w)
    (hcmp : ∀ (x : Cg) (W : World), Calls P g #[.agg (encC x).toArray, .string tv] W fun e w' => e = .returned (.int .i64 (cft x)) ∧ ∃ q os', w' = grow (W.drewN q) os')
    (R : RowK encC k w0 blk off d) (hsz : d.size < 4611686018427387904) (hmono : ∀ a b, a ≤ b → b < d.size → cft d[b]! < 0 → cft d[a]! < 0) :
    Calls P 59 #[.slice (some ⟨blk, off, none⟩) d.size cap, .string tv, .func (.func g) #[] #[]] w0 fun e w' =>
      ∃ i, Found cft d i ∧ e = .returned (.tuple #[.int .i64 (i : Nat), .bool (decide (i < d.size) && decide (cft d[i]! = 0))]) ∧ SWK encC k w0 blk off d w' := by
  have L := M.sl
  have mixed := L.mixed; have t3 := L.t3; have a3 := L.a3; have z3 := L.z3; have v3 := L.v3; have t4 := L.t4; have a4 := L.a4; have z4 := L.z4; have v4 := L.v4; have t36 := L.t36; have a36 := L.a36; have z36 := L.z36; have v36 := L.v36; have t119 := L.t119; have a119 := L.a119; have z119 := L.z119; have v119 := L.v119; have aE := L.aE; have zE := L.zE
  have t9 := M.t9; have a9 := M.a9; have z9 := M.z9; have v9 := M.v9; have t122 := M.t122; have a122 := M.a122; have z122 := M.z122; have v122 := M.v122
  have HC : Aside _ := hcmp
  have HM : Aside _ := hmono
  have S0 : Aside (SWK encC k w0 blk off d w0) := SWK.start R.hH
  clear hcmp hmono
  go_enter M.f59, Try.ntmps59
  go_wp2
  go_loopg [9, 10] d.size (fun kx s9 s10 wr => ∃ lo hi : Nat, s9 = .int .i64 lo ∧ s10 = .int .i64 hi ∧ lo ≤ hi ∧ hi ≤ d.size ∧ hi - lo ≤ kx ∧ Aside (SWK encC k w0 blk off d wr) ∧
    Aside ((∀ t, t < lo → cft d[t]! < 0) ∧ ∀ t, hi ≤ t → t < d.size → 0 ≤ cft d[t]!))
  case atStart => exact ⟨0, d.size, rfl, rfl, Nat.zero_le _, Nat.le_refl _, by omega, S0, (⟨fun t ht => absurd ht (Nat.not_lt_zero _), fun t h1 h2 => by omega⟩ : (∀ t, t < 0 → cft d[t]! < 0) ∧ ∀ t, d.size ≤ t → t < d.size → 0 ≤ cft d[t]!)⟩
  case round =>
    clear S0
    obtain ⟨lo, hi, rfl, rfl, hlh, hin, hg, S1, I⟩ := hrel
    by_cases hlt : lo < hi
    · have hltz : (lo : Int) < (hi : Int) := by omega
      obtain ⟨h, hh⟩ : ∃ h, h = (lo + hi) / 2 := ⟨_, rfl⟩
      have eh : ((lo : Int) + (hi : Int)) / 2 = (h : Int) := by omega
      have h1 : lo ≤ h := by omega
      have h2 : h < hi := by omega
      clear hh
      have pz : (0 : Int) ≤ (h : Int) := by omega
      have bz : (h : Int) < (d.size : Int) := by omega
      have l := S1.out.load R rfl P h (by omega)
      obtain ⟨y, hy⟩ : ∃ y, y = d[h]! := ⟨_, rfl⟩
      rw [← hy] at l
      have Y : Aside _ := hy
      clear hy
      have hc := HC.out y wr
      by_cases hyx : cft y < 0
      · go_wp2_with (go_at_fn g; refine hc.mono ?_; rintro e w' ⟨rfl, nq, osq, rfl⟩)
        go_roundg (hi - (h + 1))
        case measure => omega
        case rel =>
          exact ⟨h + 1, hi, by first | rfl | go_num | (congr 1; omega), rfl, by omega, hin, Nat.le_refl _, (S1.out.grown nq osq : Aside _), (⟨fun t ht => HM.out t h (by omega) (by omega) (by rw [← Y.out]; exact hyx), I.out.2⟩ : (∀ t, t < h + 1 → cft d[t]! < 0) ∧ ∀ t, hi ≤ t → t < d.size → 0 ≤ cft d[t]!)⟩
      · go_wp2_with (go_at_fn g; refine hc.mono ?_; rintro e w' ⟨rfl, nq, osq, rfl⟩)
        go_roundg (h - lo)
        case measure => omega
        case rel =>
          exact ⟨lo, h, rfl, rfl, h1, by omega, Nat.le_refl _, (S1.out.grown nq osq : Aside _), (⟨I.out.1, fun t ht htn => Int.not_lt.1 fun hx => absurd (HM.out h t ht htn hx) (by rw [← Y.out]; omega)⟩ : (∀ t, t < lo → cft d[t]! < 0) ∧ ∀ t, h ≤ t → t < d.size → 0 ≤ cft d[t]!)⟩
    · have hltz : ¬ (lo : Int) < (hi : Int) := by omega
      obtain rfl : hi = lo := by omega
      have F : Aside (Found cft d hi) := ⟨hin, I.out.1, I.out.2⟩
      by_cases hn : hi < d.size
      · have hnz : (hi : Int) < (d.size : Int) := by omega
        have pz : (0 : Int) ≤ (hi : Int) := by omega
        have l := S1.out.load R rfl P hi hn
        obtain ⟨y, hy⟩ : ∃ y, y = d[hi]! := ⟨_, rfl⟩
        rw [← hy] at l
        have Y : Aside _ := hy
        clear hy
        have hc := HC.out y wr
        go_wp2_with (go_at_fn g; refine hc.mono ?_; rintro e w' ⟨rfl, nq, osq, rfl⟩)
        go_ret2
        refine ⟨hi, F.out, ?_, S1.out.grown nq osq⟩
        rw [← Y.out, decide_eq_true hn]
        by_cases h0 : cft y = 0 <;> simp [h0]
      · have hnz : ¬ (hi : Int) < (d.size : Int) := by omega
        go_wp2_with fail
        go_ret2
        refine ⟨hi, F.out, ?_, S1.out⟩
        rw [decide_eq_false hn]
        rfl

/-! ### SortStableFunc -/
theorem last1_enters : ∀ args w, (callFunc 95 args).run Try.prog w = .ok (.enter 95 args) w := enters_of Try.func95 (by kernel_rfl) rfl
set_option maxHeartbeats 4000000 in
theorem sortStable_any (blk off cap : Nat) (d : Array Cg) (w : World) (R : RowK encC 3 w blk off d) (hsz : d.size < 1152921504606846976) :
    Calls Try.prog 94 #[.slice (some ⟨blk, off, none⟩) d.size cap, .func (.func 95) #[] #[]] w fun e w' => e = .returned (.tuple #[]) ∧ ∃ d', SWK encC 3 w blk off d' w' ∧ StbIn (ltOf kcmp) 0 d.size d d' ∧ SortedIn (ltOf kcmp) 0 d.size d' := by
  have hm : SymOk kcmp 95 #[] blk off cap d w := fun a m b d' w' hs S ham hmb hb hz hU hV =>
    symMerge_any sl_try kcmp klt_swo 95 #[] blk off cap d w last1_enters (last1_lays blk off d.size w) R (b - a + 1) a m b d' w' (Nat.lt_succ_self _) hs S ham hmb hb hz hU hV
  have hc := stable_any kcmp klt_swo 95 #[] blk off cap d w last1_enters (last1_lays blk off d.size w) R hm d w rfl (SWK.start R.hH) hsz
  clear hm R
  go_enter Try.func94, Try.ntmps94
  go_wp2_with (go_at_call 103; refine hc.mono ?_; rintro e w' ⟨rfl, h⟩)
  go_end0
  exact ⟨rfl, h⟩
end Go.Proofs.Ytbfhlleipeipbaa
