/-
  What is proved: the contract of slices.stableCmpFunc at store.Change: the row is sorted, stable. Conditions: those in each statement (that of symMergeCmpFunc is one of them).
-/
import Derived.Test.YtbfhlleipeipbaaSg
namespace Go.Proofs.Ytbfhlleipeipbaa
open Go.Shelf Go.RowKit Go.Lib Go.Sort

/-- symMerge's contract, as a condition. -/
def SymOk (cf : Cg → Cg → Int) (g : Nat) (cb : Array Value) (blk off cap : Nat) (d0 : Array Cg) (w0 : World) : Prop :=
  ∀ (a m b : Nat) (d : Array Cg) (w : World), d0.size = d.size → SWK encC 3 w0 blk off d w → a < m → m < b → b ≤ d.size → d.size < 4611686018427387904 → SortedIn (ltOf cf) a m d → SortedIn (ltOf cf) m b d →
      Calls Try.prog 106 #[.slice (some ⟨blk, off, none⟩) d.size cap, .int .i64 a, .int .i64 m, .int .i64 b, .func (.func g) #[] cb] w fun e w' => e = .returned (.tuple #[]) ∧ ∃ d', SWK encC 3 w0 blk off d' w' ∧ StbIn (ltOf cf) a (b - a) d d' ∧ SortedIn (ltOf cf) a b d'

set_option maxHeartbeats 4000000 in
set_option maxRecDepth 1000000 in
theorem stable_any (cf : Cg → Cg → Int) (hO : SWO (ltOf cf)) (g : Nat) (cb : Array Value) (blk off cap : Nat) (d0 : Array Cg) (w0 : World)
    (eg : ∀ args w, (callFunc g args).run Try.prog w = .ok (.enter g args) w) (hcmp : CmpLays Try.prog g cb encC 3 cf blk off d0.size w0) (R : RowK encC 3 w0 blk off d0) (HM : SymOk cf g cb blk off cap d0 w0)
    (d : Array Cg) (w : World) (hs : d0.size = d.size) (S : SWK encC 3 w0 blk off d w) (hsz : d.size < 1152921504606846976) :
    Calls Try.prog 103 #[.slice (some ⟨blk, off, none⟩) d.size cap, .int .i64 d.size, .func (.func g) #[] cb] w fun e w' => e = .returned (.tuple #[]) ∧ ∃ d', SWK encC 3 w0 blk off d' w' ∧ StbIn (ltOf cf) 0 d.size d d' ∧ SortedIn (ltOf cf) 0 d.size d' := by
  have S0 : Aside _ := S
  have HI : Aside _ := fun (dk : Array Cg) (wr : World) (a b : Nat) (h1 : dk.size = d.size) (h2 : SWK encC 3 w0 blk off dk wr) (h3 : a ≤ b) (h4 : b ≤ d.size) => insertion_any cf hO g cb blk off cap d0 w0 eg hcmp R a b dk wr (hs.trans h1.symm) h2 h3 (by rw [h1]; exact h4) (by rw [h1]; omega)
  have HY : Aside _ := fun (dk : Array Cg) (wr : World) (a m b : Nat) (h1 : dk.size = d.size) (h2 : SWK encC 3 w0 blk off dk wr) (h3 : a < m) (h4 : m < b) (h5 : b ≤ d.size) => HM a m b dk wr (hs.trans h1.symm) h2 h3 h4 (by rw [h1]; exact h5) (by rw [h1]; omega)
  clear S HM hcmp
  obtain ⟨n, hn⟩ : ∃ n, n = d.size := ⟨_, rfl⟩
  have HN : Aside _ := hn
  rw [← hn] at hsz ⊢
  have HI : Aside _ := fun (dk : Array Cg) (wr : World) (a b : Nat) (h1 : dk.size = n) (h2 : SWK encC 3 w0 blk off dk wr) (h3 : a ≤ b) (h4 : b ≤ n) => by
    have := HI.out dk wr a b (h1.trans hn) h2 h3 (hn ▸ h4); rw [h1] at this; exact this
  have HY : Aside _ := fun (dk : Array Cg) (wr : World) (a m b : Nat) (h1 : dk.size = n) (h2 : SWK encC 3 w0 blk off dk wr) (h3 : a < m) (h4 : m < b) (h5 : b ≤ n) => by
    have := HY.out dk wr a m b (h1.trans hn) h2 h3 h4 (hn ▸ h5); rw [h1] at this; exact this
  clear hn
  go_enter Try.func103, Try.ntmps103
  go_wp2
  go_loopg [7, 8] (n + 20) (fun kx v7 v8 wr => ∃ (x y : Nat) (dk : Array Cg), v7 = .int .i64 (x : Int) ∧ v8 = .int .i64 (y : Int) ∧ y ≤ x + 20 ∧ x + 20 ≤ y ∧ x ≤ n ∧ n + 20 - x ≤ kx ∧ Aside (dk.size = n) ∧ Aside (SWK encC 3 w0 blk off dk wr) ∧ Aside (StbIn (ltOf cf) 0 n d dk) ∧ Aside (∃ t, x = 20 * t) ∧ Aside (Blk (ltOf cf) 20 0 x dk))
  case atStart => exact ⟨0, 20, d, rfl, rfl, by omega, by omega, by omega, by omega, (HN.out.symm : Aside _), S0, (StbIn.refl _ _ _ : Aside _), (show Aside (∃ t, 0 = 20 * t) from ⟨0, rfl⟩), (Blk.none 20 0 0 d (Nat.le_refl _) : Aside _)⟩
  case round =>
    clear S0
    obtain ⟨x, y, dk, rfl, rfl, hyx, hxy, hxn, hkx, Z1, S1, T1, X1, B1⟩ := hrel
    by_cases hle : y ≤ n
    · have hlez : (y : Int) ≤ (n : Int) := by omega
      have hc := HI.out dk wr x y Z1.out S1.out (by omega) hle
      clear S1
      go_wp2_with (go_at_call 105; refine hc.mono ?_; clear hc; rintro ex w' ⟨rfl, d', hS', hst', hso'⟩)
      have Q : Aside _ := And.intro hS' (And.intro hst' hso')
      clear hS' hst' hso'
      have ey : (y : Int) + 20 = ((y + 20 : Nat) : Int) := by omega
      go_roundg (n + 20 - y)
      case measure => omega
      case rel =>
        obtain ⟨t, ht⟩ := X1.out
        have exy : y = x + 20 := by omega
        refine ⟨y, y + 20, d', rfl, by first | rfl | go_num | (congr 1; omega), Nat.le_refl _, Nat.le_refl _, hle, Nat.le_refl _, (Q.out.2.1.1.trans Z1.out : Aside _), (Q.out.1 : Aside _), (T1.out.trans (Q.out.2.1.wide 0 n (Nat.zero_le _) (by omega)) : Aside _), (show Aside (∃ t, y = 20 * t) from ⟨t + 1, by omega⟩), (?_ : Aside _)⟩
        refine Blk.snoc (t := t) (d := dk) (by omega) (by rw [← ht]; exact B1.out) (by rw [← ht]; exact Q.out.2.1) (by rw [← ht]; exact Q.out.2.2)
    · have hlez : ¬ (y : Int) ≤ (n : Int) := by omega
      have hc := HI.out dk wr x n Z1.out S1.out hxn (Nat.le_refl _)
      clear S1
      go_wp2_with (go_at_call 105; refine hc.mono ?_; clear hc; rintro ex w' ⟨rfl, d', hS', hst', hso'⟩)
      have S2 : Aside _ := hS'
      have T2 : Aside (StbIn (ltOf cf) 0 n d d') := T1.out.trans (hst'.wide 0 n (Nat.zero_le _) (by omega))
      have Z2 : Aside (d'.size = n) := hst'.1.trans Z1.out
      have B2 : Aside (Blk (ltOf cf) 20 0 n d') := by
        obtain ⟨t, ht⟩ := X1.out
        exact Blk.snoc (t := t) (d := dk) (by omega) (by rw [← ht]; exact B1.out) (by rw [← ht]; exact hst') (by rw [← ht]; exact hso')
      clear hS' hst' hso' Z1 T1 X1 B1
      go_loopg [6, 7, 8, 9] n (fun kx v6 _ _ _ wr2 => ∃ (bs : Nat) (dk : Array Cg), v6 = .int .i64 (bs : Int) ∧ 0 < bs ∧ bs ≤ 2 * n + 20 ∧ n - bs ≤ kx ∧ Aside (dk.size = n) ∧ Aside (SWK encC 3 w0 blk off dk wr2) ∧ Aside (StbIn (ltOf cf) 0 n d dk) ∧ Aside (Blk (ltOf cf) bs 0 n dk))
      case atStart => exact ⟨20, d', rfl, by omega, by omega, by omega, Z2, S2, T2, B2⟩
      case round =>
        clear S2 T2 Z2 B2
        obtain ⟨bs, dk, rfl, hb0, hb1, hkx2, Z2, S2, T2, B2⟩ := hrel
        by_cases hlt : bs < n
        · have hltz : (bs : Int) < (n : Int) := by omega
          go_wp2
          go_loopg [7, 8] (n + 2 * bs) (fun kx v7 v8 wr3 => ∃ (x y : Nat) (dj : Array Cg), v7 = .int .i64 (x : Int) ∧ v8 = .int .i64 (y : Int) ∧ y ≤ x + 2 * bs ∧ x + 2 * bs ≤ y ∧ x ≤ n ∧ n + 2 * bs - x ≤ kx ∧ Aside (dj.size = n) ∧ Aside (SWK encC 3 w0 blk off dj wr3) ∧ Aside (StbIn (ltOf cf) 0 n d dj) ∧ Aside (∃ t, x = 2 * bs * t) ∧ Aside (Blk (ltOf cf) (2 * bs) 0 x dj ∧ Blk (ltOf cf) bs x n dj))
          case atStart => exact ⟨0, 2 * bs, dk, rfl, by first | rfl | go_num | (congr 1; omega), by omega, by omega, by omega, by omega, Z2, S2, T2, (show Aside (∃ t, 0 = 2 * bs * t) from ⟨0, rfl⟩), (show Aside (_ ∧ _) from ⟨Blk.none _ 0 0 dk (Nat.le_refl _), B2.out⟩)⟩
          case round =>
            clear Z2 S2 T2 B2
            obtain ⟨x, y, dj, rfl, rfl, hyx, hxy, hxn, hkx3, Z3, S3, T3, X3, B3⟩ := hrel
            have pos : Aside (∀ t, x = 2 * bs * t → bs * (2 * t) = x ∧ bs * (2 * t + 1) = x + bs) := fun t ht => by
              constructor
              · rw [ht, Nat.mul_comm 2 bs, Nat.mul_assoc]
              · rw [Nat.mul_add, ht, Nat.mul_comm 2 bs, Nat.mul_assoc, Nat.mul_one]
            obtain ⟨z, hz⟩ : ∃ z, z = x + bs := ⟨_, rfl⟩
            have hz1 : z ≤ x + bs := by omega
            have hz2 : x + bs ≤ z := by omega
            have ez : (x : Int) + (bs : Int) = (z : Int) := by omega
            clear hz
            by_cases hle : y ≤ n
            · have hlez : (y : Int) ≤ (n : Int) := by omega
              have so1 : SortedIn (ltOf cf) x z dj := by
                obtain ⟨t, ht⟩ := X3.out
                obtain ⟨p1, p2⟩ := pos.out t ht
                exact B3.out.2.one (t := 2 * t) (by omega) (by omega) (Nat.le_refl _) (by omega)
              have so2 : SortedIn (ltOf cf) z y dj := by
                obtain ⟨t, ht⟩ := X3.out
                obtain ⟨p1, p2⟩ := pos.out t ht
                exact B3.out.2.one (t := 2 * t + 1) (by omega) (by omega) (by omega) (by omega)
              have hc := HY.out dj wr x z y Z3.out S3.out (by omega) (by omega) hle so1 so2
              clear S3 so1 so2
              go_wp2_with (go_at_call 106; refine hc.mono ?_; clear hc; rintro ex w' ⟨rfl, d', hS', hst', hso'⟩)
              have Q : Aside _ := And.intro hS' (And.intro hst' hso')
              clear hS' hst' hso'
              go_roundg (n + 2 * bs - y)
              case measure => omega
              case rel =>
                obtain ⟨t, ht⟩ := X3.out
                have exy : y = x + 2 * bs := by omega
                have e2 : 2 * bs * (t + 1) = y := by rw [Nat.mul_add, ← ht, Nat.mul_one, exy]
                refine ⟨y, y + 2 * bs, d', rfl, by first | rfl | go_num | (congr 1; omega), Nat.le_refl _, Nat.le_refl _, hle, Nat.le_refl _, (Q.out.2.1.1.trans Z3.out : Aside _), (Q.out.1 : Aside _), (T3.out.trans (Q.out.2.1.wide 0 n (Nat.zero_le _) (by omega)) : Aside _), (show Aside (∃ t, y = 2 * bs * t) from ⟨t + 1, e2.symm⟩), (show Aside (_ ∧ _) from ⟨?_, ?_⟩)⟩
                · exact Blk.snoc (t := t) (d := dj) (by omega) (by rw [← ht]; exact B3.out.1) (by rw [← ht]; exact Q.out.2.1) (by rw [← ht]; exact Q.out.2.2)
                · exact B3.out.2.rest (by omega) Q.out.2.1 (by omega)
            · have hlez : ¬ (y : Int) ≤ (n : Int) := by omega
              by_cases hm : z < n
              · have hmz : (z : Int) < (n : Int) := by omega
                have so1 : SortedIn (ltOf cf) x z dj := by
                  obtain ⟨t, ht⟩ := X3.out
                  obtain ⟨p1, p2⟩ := pos.out t ht
                  exact B3.out.2.one (t := 2 * t) (by omega) (by omega) (Nat.le_refl _) (by omega)
                have so2 : SortedIn (ltOf cf) z n dj := by
                  obtain ⟨t, ht⟩ := X3.out
                  obtain ⟨p1, p2⟩ := pos.out t ht
                  exact B3.out.2.one (t := 2 * t + 1) (by omega) (by omega) (by omega) (by omega)
                have hc := HY.out dj wr x z n Z3.out S3.out (by omega) hm (Nat.le_refl _) so1 so2
                clear S3 so1 so2
                go_wp2_with (go_at_call 106; refine hc.mono ?_; clear hc; rintro ex w' ⟨rfl, d', hS', hst', hso'⟩)
                have Q : Aside _ := And.intro hS' (And.intro hst' hso')
                clear hS' hst' hso'
                go_roundg (n - bs * 2)
                case measure => omega
                case rel =>
                  obtain ⟨t, ht⟩ := X3.out
                  refine ⟨bs * 2, d', by first | rfl | go_num | (congr 1; omega), by omega, by omega, Nat.le_refl _, (Q.out.2.1.1.trans Z3.out : Aside _), (Q.out.1 : Aside _), (T3.out.trans (Q.out.2.1.wide 0 n (Nat.zero_le _) (by omega)) : Aside _), (?_ : Aside _)⟩
                  rw [Nat.mul_comm bs 2]
                  exact Blk.snoc (t := t) (d := dj) (by omega) (by rw [← ht]; exact B3.out.1) (by rw [← ht]; exact Q.out.2.1) (by rw [← ht]; exact Q.out.2.2)
              · have hmz : ¬ (z : Int) < (n : Int) := by omega
                go_wp2
                go_roundg (n - bs * 2)
                case measure => omega
                case rel =>
                  obtain ⟨t, ht⟩ := X3.out
                  obtain ⟨p1, p2⟩ := pos.out t ht
                  refine ⟨bs * 2, dj, by first | rfl | go_num | (congr 1; omega), by omega, by omega, Nat.le_refl _, Z3, S3, T3, (?_ : Aside _)⟩
                  rw [Nat.mul_comm bs 2]
                  exact Blk.snoc (t := t) (d := dj) (by omega) (by rw [← ht]; exact B3.out.1) (StbIn.refl _ _ _) (by rw [← ht]; exact B3.out.2.one (t := 2 * t) (by omega) (by omega) (Nat.le_refl _) (Nat.le_refl _))
        · have hltz : ¬ (bs : Int) < (n : Int) := by omega
          go_wp2
          go_end0
          exact ⟨rfl, dk, S2.out, T2.out, B2.out.all (by omega)⟩
end Go.Proofs.Ytbfhlleipeipbaa
