/-
  What is proved: the contracts of slices.swapRangeCmpFunc and slices.rotateCmpFunc at store.Change: which elements lie where behind them. Conditions: those in each statement.
-/
import Derived.Test.YtbfhlleipeipbaaChecked
import Derived.Test.YtbfhlleipeipbaaSm
import Derived.Shelf.SlSortCmp.KitK
import Derived.Sort.WalkB2
import Derived.Sort.WalkB12
import Derived.Deep.LoopGhost
namespace Go.Proofs.Ytbfhlleipeipbaa
open Go.Shelf Go.RowKit Go.Lib Go.Sort

/-- A change, as plain data. -/
structure Cg where
  key : ByteArray
  val : ByteArray
  gone : Bool
instance : Inhabited Cg := ⟨⟨⟨#[]⟩, ⟨#[]⟩, false⟩⟩
def encC (c : Cg) : List Value := [.string c.key, .string c.val, .bool c.gone]
theorem encC_len (c : Cg) : (encC c).length = 3 := rfl
theorem encC_one (c : Cg) : ∀ v ∈ encC c, v.oneCell' = true := fun v hv => by
  simp [encC] at hv; rcases hv with rfl | rfl | rfl <;> rfl

/-- What the walks of this sort ask of a program: these functions and these types. (k: how many cells a change takes, so that no walk writes the number out.) -/
structure SL (P : Program) (k : Nat) : Prop where
  mixed : P.follows Departure.mixedOrders = true
  t3 : P.underlying 3 = some (.int .i64)
  a3 : ∀ w, (isAgg 3).run P w = .ok false w
  z3 : ∀ w, (Go.sizeOf 3).run P w = .ok 1 w
  v3 : ∀ w, (zeroValue 3).run P w = .ok (.int .i64 0) w
  t4 : P.underlying 4 = some .bool
  a4 : ∀ w, (isAgg 4).run P w = .ok false w
  z4 : ∀ w, (Go.sizeOf 4).run P w = .ok 1 w
  v4 : ∀ w, (zeroValue 4).run P w = .ok (.bool false) w
  t36 : P.underlying 36 = some (.slice 52)
  a36 : ∀ w, (isAgg 36).run P w = .ok false w
  z36 : ∀ w, (Go.sizeOf 36).run P w = .ok 1 w
  v36 : ∀ w, (zeroValue 36).run P w = .ok (.slice none 0 0) w
  t119 : P.underlying 119 = some (.int .u64)
  a119 : ∀ w, (isAgg 119).run P w = .ok false w
  z119 : ∀ w, (Go.sizeOf 119).run P w = .ok 1 w
  v119 : ∀ w, (zeroValue 119).run P w = .ok (.int .u64 0) w
  t150 : P.underlying 150 = some (.func #[52, 52] #[3] false)
  a150 : ∀ w, (isAgg 150).run P w = .ok false w
  z150 : ∀ w, (Go.sizeOf 150).run P w = .ok 1 w
  v150 : ∀ w, (zeroValue 150).run P w = .ok .nilFunc w
  aE : ∀ w, (isAgg 52).run P w = .ok true w
  zE : ∀ w, (Go.sizeOf 52).run P w = .ok k w
  f94 : P.funcs[94]? = some Try.f94
  f103 : P.funcs[103]? = some Try.f103
  f105 : P.funcs[105]? = some Try.f105
  f106 : P.funcs[106]? = some Try.f106
  f107 : P.funcs[107]? = some Try.f107
  f108 : P.funcs[108]? = some Try.f108
theorem sl_try : SL Try.prog 3 := ⟨by kernel_rfl, Try.underlying3, Try.isAgg3, Try.sizeOf3, Try.zeroValue3, Try.underlying4, Try.isAgg4, Try.sizeOf4, Try.zeroValue4, Try.underlying36, Try.isAgg36, Try.sizeOf36, Try.zeroValue36,
  Try.underlying119, Try.isAgg119, Try.sizeOf119, Try.zeroValue119, Try.underlying150, Try.isAgg150, Try.sizeOf150, Try.zeroValue150, Try.isAgg52, Try.sizeOf52, Try.func94, Try.func103, Try.func105, Try.func106, Try.func107, Try.func108⟩
variable {P : Program} {k : Nat}

set_option maxHeartbeats 4000000 in
set_option maxRecDepth 1000000 in
theorem swapRange_any (L : SL P k) (g : Nat) (cb : Array Value) (blk off cap a b n : Nat) (d0 d : Array Cg) (w0 w : World)
    (R : RowK encC k w0 blk off d0) (hs : d0.size = d.size) (S : SWK encC k w0 blk off d w) (hab : a + n ≤ b) (hb : b + n ≤ d.size) (hsz : d.size < 4611686018427387904) :
    Calls P 108 #[.slice (some ⟨blk, off, none⟩) d.size cap, .int .i64 a, .int .i64 b, .int .i64 n, .func (.func g) #[] cb] w fun e w' => e = .returned (.tuple #[]) ∧ ∃ d', SWK encC k w0 blk off d' w' ∧ Swapped a b n d d' := by
  have mixed := L.mixed; have t3 := L.t3; have a3 := L.a3; have z3 := L.z3; have v3 := L.v3; have t4 := L.t4; have a4 := L.a4; have z4 := L.z4; have v4 := L.v4; have t36 := L.t36; have a36 := L.a36; have z36 := L.z36; have v36 := L.v36; have t150 := L.t150; have a150 := L.a150; have z150 := L.z150; have v150 := L.v150; have aE := L.aE; have zE := L.zE
  have S0 : Aside (SWK encC k w0 blk off d w) := S
  clear S
  go_enter L.f108, Try.ntmps108
  go_wp2
  go_loopg [10] n (fun kx s10 wr => ∃ (i : Nat) (dk : Array Cg), s10 = .int .i64 i ∧ i ≤ n ∧ n - i ≤ kx ∧ dk.size = d.size ∧ Aside (SWK encC k w0 blk off dk wr) ∧ Aside (Swapped a b i d dk))
  case atStart => exact ⟨0, d, rfl, Nat.zero_le _, Nat.le_refl _, rfl, S0, (Swapped.zero a b d : Aside _)⟩
  case round =>
    clear S0
    obtain ⟨i, dk, rfl, hin, hkx, hds, S1, W1⟩ := hrel
    by_cases hlt : i < n
    · have hltz : (i : Int) < (n : Int) := by omega
      go_wp2_with fail
      have ea : ((a : Int) + (i : Int)).toNat = a + i := by omega
      have pa : (0 : Int) ≤ (a : Int) + (i : Int) := by omega
      have ba : (a : Int) + (i : Int) < (d.size : Int) := by omega
      have ra : IntKind.i64.wrap ((a : Int) + (i : Int)) = (a : Int) + (i : Int) := by rw [IntKind.wrap_i64]; omega
      have ec : ((b : Int) + (i : Int)).toNat = b + i := by omega
      have pc : (0 : Int) ≤ (b : Int) + (i : Int) := by omega
      have bc : (b : Int) + (i : Int) < (d.size : Int) := by omega
      have rc : IntKind.i64.wrap ((b : Int) + (i : Int)) = (b : Int) + (i : Int) := by rw [IntKind.wrap_i64]; omega
      have S2 : Aside (SWK encC k w0 blk off (swp dk (a + i) (b + i)) ((wr.drew.setCells blk (off + (a + i) * k) (encC dk[b + i]!)).setCells blk (off + (b + i) * k) (encC dk[a + i]!))) := S1.out.swapped R (a + i) (b + i) (by omega) (by omega)
      have la := S1.out.ld1 R (by omega) P (a + i) (by omega)
      have lb := S1.out.ld1 R (by omega) P (b + i) (by omega)
      have sa := S1.out.st1 R (by omega) P (a + i) (by omega) dk[b + i]!
      have sb := S1.out.st2 R (by omega) P (a + i) (b + i) (by omega) (by omega) dk[b + i]! dk[a + i]!
      have na : (encC dk[a + i]!).length = k := R.hk _
      have nb : (encC dk[b + i]!).length = k := R.hk _
      generalize encC dk[a + i]! = cI at S2 la sb na
      generalize encC dk[b + i]! = cJ at S2 lb sa sb nb
      clear S1
      go_wp2_with fail
      go_big_region_o
      clear la lb sa sb
      generalize (wr.drew.setCells blk (off + (a + i) * k) cJ).setCells blk (off + (b + i) * k) cI = w2 at S2 ⊢
      go_wp2
      go_roundg (n - (i + 1))
      case measure => omega
      case rel =>
        exact ⟨i + 1, swp dk (a + i) (b + i), by first | rfl | go_num | (congr 1; omega), by omega, Nat.le_refl _, by rw [size_swp]; exact hds, S2, (W1.out.succ (by omega) (by omega) : Aside _)⟩
    · have hltz : ¬ (i : Int) < (n : Int) := by omega
      obtain rfl : i = n := by omega
      go_wp2
      go_end0
      exact ⟨rfl, dk, S1.out, W1.out⟩
set_option maxHeartbeats 4000000 in
set_option maxRecDepth 1000000 in
theorem rotate_any (L : SL P k) (g : Nat) (cb : Array Value) (blk off cap a m b : Nat) (d0 d : Array Cg) (w0 w : World)
    (R : RowK encC k w0 blk off d0) (hs : d0.size = d.size) (S : SWK encC k w0 blk off d w) (ham : a < m) (hmb : m < b) (hb : b ≤ d.size) (hsz : d.size < 4611686018427387904) :
    Calls P 107 #[.slice (some ⟨blk, off, none⟩) d.size cap, .int .i64 a, .int .i64 m, .int .i64 b, .func (.func g) #[] cb] w fun e w' => e = .returned (.tuple #[]) ∧ ∃ d', SWK encC k w0 blk off d' w' ∧ Rotated a (m - a) (b - m) d d' := by
  have mixed := L.mixed; have t3 := L.t3; have a3 := L.a3; have z3 := L.z3; have v3 := L.v3; have t4 := L.t4; have a4 := L.a4; have z4 := L.z4; have v4 := L.v4; have t36 := L.t36; have a36 := L.a36; have z36 := L.z36; have v36 := L.v36; have t150 := L.t150; have a150 := L.a150; have z150 := L.z150; have v150 := L.v150; have aE := L.aE; have zE := L.zE
  have e108 : ∀ args w, (callFunc 108 args).run P w = .ok (.enter 108 args) w := enters_of L.f108 (by kernel_rfl) rfl
  have S0 : Aside (SWK encC k w0 blk off d w) := S
  have HS : Aside _ := fun (dk : Array Cg) (wr : World) (x y n : Nat) (h1 : dk.size = d.size) (h2 : SWK encC k w0 blk off dk wr) (h3 : x + n ≤ y) (h4 : y + n ≤ dk.size) => swapRange_any L g cb blk off cap x y n d0 dk w0 wr R (hs.trans h1.symm) h2 h3 h4 (h1 ▸ hsz)
  clear S
  have e1 : ((m : Int) - (a : Int)) = ((m - a : Nat) : Int) := by omega
  have e2 : ((b : Int) - (m : Int)) = ((b - m : Nat) : Int) := by omega
  go_enter L.f107, Try.ntmps107
  go_wp2
  go_loopg [10, 11] (b - a) (fun kx s10 s11 wr => ∃ (i j : Nat) (dk : Array Cg), s10 = .int .i64 i ∧ s11 = .int .i64 j ∧ 0 < i ∧ 0 < j ∧ a + i ≤ m ∧ m + j ≤ b ∧ i + j ≤ kx ∧ dk.size = d.size ∧ Aside (SWK encC k w0 blk off dk wr) ∧ Aside (∀ f, Rotated (m - i) i j dk f → Rotated a (m - a) (b - m) d f))
  case atStart => exact ⟨m - a, b - m, d, by rw [← e1], by rw [← e2], by omega, by omega, by omega, by omega, by omega, rfl, S0, (fun f hf => by rw [show m - (m - a) = a by omega] at hf; exact hf : Aside _)⟩
  case round =>
    clear S0 e1 e2
    obtain ⟨i, j, dk, rfl, rfl, hi0, hj0, hai, hjb, hkx, hds, S1, F1⟩ := hrel
    by_cases hne : i = j
    · subst hne
      have hne' : ((i : Int) = (i : Int)) := rfl
      have em : (m : Int) - (i : Int) = ((m - i : Nat) : Int) := by omega
      have hc := HS.out dk wr (m - i) m i hds S1.out (by omega) (by omega)
      rw [hds] at hc
      have rm : IntKind.i64.wrap ((m : Int) - (i : Int)) = ((m - i : Nat) : Int) := by rw [IntKind.wrap_i64]; omega
      clear S1
      go_wp2_with (go_at_fn 108; (try rw [em]); refine hc.mono ?_; rintro e w' ⟨rfl, d', hS', hw'⟩)
      go_end0
      exact ⟨rfl, d', hS', F1.out d' (Rotated.even (by rw [show m - i + i = m by omega]; exact hw'))⟩
    · by_cases hgt : j < i
      · have hnz : ¬ ((i : Int) = (j : Int)) := by omega
        have hgz : (j : Int) < (i : Int) := by omega
        have em : (m : Int) - (i : Int) = ((m - i : Nat) : Int) := by omega
        have hc := HS.out dk wr (m - i) m j hds S1.out (by omega) (by omega)
        rw [hds] at hc
        clear S1
        go_wp2_with (go_at_fn 108; (try rw [em]); refine hc.mono ?_; rintro e w' ⟨rfl, d', hS', hw'⟩)
        have S2 : Aside _ := hS'
        have W2 : Aside _ := hw'
        clear hS' hw'
        go_roundg (i - j + j)
        case measure => omega
        case rel =>
          refine ⟨i - j, j, d', by first | rfl | go_num | (congr 1; omega), rfl, by omega, hj0, by omega, hjb, Nat.le_refl _, W2.out.1.trans hds, S2, (fun f hf => F1.out f ?_ : Aside _)⟩
          refine Rotated.left (by rw [show m - i + i = m by omega]; exact W2.out) (by omega) ?_
          rw [show m - i + j = m - (i - j) by omega]; exact hf
      · have hnz : ¬ ((i : Int) = (j : Int)) := by omega
        have hgz : ¬ (j : Int) < (i : Int) := by omega
        have em : (m : Int) - (i : Int) = ((m - i : Nat) : Int) := by omega
        have em2 : (m : Int) + (j : Int) - (i : Int) = ((m - i + j : Nat) : Int) := by omega
        have hc := HS.out dk wr (m - i) (m - i + j) i hds S1.out (by omega) (by omega)
        rw [hds] at hc
        clear S1
        go_wp2_with (go_at_fn 108; (try rw [em]); (try rw [em2]); refine hc.mono ?_; rintro e w' ⟨rfl, d', hS', hw'⟩)
        have S2 : Aside _ := hS'
        have W2 : Aside _ := hw'
        clear hS' hw'
        go_roundg (i + (j - i))
        case measure => omega
        case rel =>
          refine ⟨i, j - i, d', rfl, by first | rfl | go_num | (congr 1; omega), hi0, by omega, hai, by omega, Nat.le_refl _, W2.out.1.trans hds, S2, (fun f hf => F1.out f ?_ : Aside _)⟩
          exact Rotated.right W2.out (by omega) hf
end Go.Proofs.Ytbfhlleipeipbaa
