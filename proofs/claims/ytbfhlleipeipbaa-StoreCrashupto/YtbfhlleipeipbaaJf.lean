/-
  What is proved: what the journal's 'first' answers. Conditions: the bytes lie in memory as they must, and are no more than 2^40.
-/
import Derived.Test.YtbfhlleipeipbaaJs
namespace Go.Proofs.Ytbfhlleipeipbaa
open Go.RowKit

set_option maxRecDepth 100000 in
set_option maxHeartbeats 1000000 in
theorem first_short (A : Option Addr) (n c : Nat) (w : World) (h16 : n < 16) :
    Calls Try.prog 88 #[.slice A n c] w fun e w' => e = .returned (.tuple #[.slice none 0 0, .bool false]) ∧ Below w.heap.size w w' := by
  go_enter Try.func88, Try.ntmps88
  go_wp2
  go_ret2
  exact ⟨rfl, Below.refl _ _⟩

set_option maxRecDepth 100000 in
set_option maxHeartbeats 1000000 in
theorem first_bad (A : Option Addr) (n c : Nat) (l16 : List UInt8) (s1 s2 : St) (x y : Int) (w : World) (h16 : 16 ≤ n) (hc : n ≤ c)
    (hR : Calls Try.prog 65 #[.slice A 16 c] w (NewRdr w l16)) (h1 : ∀ g w1, Rdr w1 g (some l16) → Calls Try.prog 87 #[.pointer (some ⟨g, 0, none⟩)] w1 (Left1 w1 g (.int .i64 x) s1))
    (h2 : ∀ g w1, Rdr w1 g s1 → Calls Try.prog 87 #[.pointer (some ⟨g, 0, none⟩)] w1 (Left1 w1 g (.int .i64 y) s2)) (hx : x < 0 ∨ (0 ≤ x ∧ ((n - 16 : Nat) : Int) < x)) (hn : n ≤ 1099511627776) :
    Calls Try.prog 88 #[.slice A n c] w fun e w' => e = .returned (.tuple #[.slice none 0 0, .bool false]) ∧ Below w.heap.size w w' := by
  have HR := Lib.hid hR
  have H1 := Lib.hid h1
  have H2 := Lib.hid h2
  clear hR h1 h2
  rcases hx with hx | ⟨hx0, hx⟩
  all_goals
    by_cases hc16 : c = 16
    all_goals
      try subst hc16
      go_enter Try.func88, Try.ntmps88
      go_wp2_with fail
      refine HR.out.mono ?_
      rintro e w1 ⟨g, rfl, hr1, _, hb1, hg1, hg2⟩
      go_wp2_with fail
      refine (H1.out g w1 hr1).mono ?_
      rintro e w2 ⟨rfl, hr2, hgr2⟩
      go_wp2_with fail
      refine (H2.out g w2 hr2).mono ?_
      rintro e w3 ⟨rfl, hr3, hgr3⟩
      go_wp2_with fail
      go_ret2
      exact ⟨rfl, ((hb1.grown hgr2 hb1.size (by rintro k e; cases e; exact hg1)).grown hgr3 (Nat.le_trans hb1.size hgr2.size) (by rintro k e; cases e; exact hg1))⟩

def GoodPost (w : World) (m : Nat) (bo : List UInt8) (y : Int) (z : Nat) (e : Ending) (w' : World) : Prop :=
  ∃ ad c', e = .returned (.tuple #[.slice (some ad) m c', .bool (y == (z : Int))]) ∧ Hold w' (some ad) m c' bo ∧ Below w.heap.size w w'

set_option maxRecDepth 100000 in
set_option maxHeartbeats 1000000 in
theorem first_good (A : Option Addr) (n c : Nat) (l16 : List UInt8) (s1 s2 : St) (m z : Nat) (y : Int) (bo : List UInt8) (w : World) (h16 : 16 ≤ n) (hc : n ≤ c)
    (hR : Calls Try.prog 65 #[.slice A 16 c] w (NewRdr w l16)) (h1 : ∀ g w1, Rdr w1 g (some l16) → Calls Try.prog 87 #[.pointer (some ⟨g, 0, none⟩)] w1 (Left1 w1 g (.int .i64 (m : Int)) s1))
    (h2 : ∀ g w1, Rdr w1 g s1 → Calls Try.prog 87 #[.pointer (some ⟨g, 0, none⟩)] w1 (Left1 w1 g (.int .i64 y) s2)) (hm : m ≤ n - 16) (hn : n ≤ 1099511627776) (hz : z < 4294967296)
    (hb : ∀ w1 A', Below w.heap.size w w1 → (c ≠ 16 → A' = A.map (·.add 16)) → (c = 16 → A' = A) → ∃ ad, A' = some ad ∧ Hold w1 (some ad) m (c - 16) bo)
    (hs : ∀ ad m' c' w3, Hold w3 (some ad) m' c' bo → m' ≤ 140737488355328 → Calls Try.prog 102 #[.slice (some ⟨w3.heap.size, 0, none⟩) 1 1] (w3.alloc (.cells #[.slice (some ad) m' c'] 43)) fun e w' => e = .returned (.int .u32 (z : Int)) ∧ w3.alloc (.cells #[.slice (some ad) m' c'] 43) = w') :
    Calls Try.prog 88 #[.slice A n c] w (GoodPost w m bo y z) := by
  have HR := Lib.hid hR
  have H1 := Lib.hid h1
  have H2 := Lib.hid h2
  have HB := Lib.hid hb
  have HS := Lib.hid hs
  clear hR h1 h2 hb hs
  by_cases hc16 : c = 16
  · subst hc16
    obtain rfl : n = 16 := by omega
    obtain rfl : m = 0 := by omega
    · go_enter Try.func88, Try.ntmps88
      go_wp2_with fail
      refine HR.out.mono ?_
      rintro e w1 ⟨g, rfl, hr1, _, hb1, hg1, hg2⟩
      go_wp2_with fail
      refine (H1.out g w1 hr1).mono ?_
      rintro e w2 ⟨rfl, hr2, hgr2⟩
      go_wp2_with fail
      refine (H2.out g w2 hr2).mono ?_
      rintro e w3 ⟨rfl, hr3, hgr3⟩
      have hb3 : Below w.heap.size w w3 := (hb1.grown hgr2 hb1.size (by rintro k e; cases e; exact hg1)).grown hgr3 (Nat.le_trans hb1.size hgr2.size) (by rintro k e; cases e; exact hg1)
      obtain ⟨ad, rfl, hbo⟩ := HB.out w3 A hb3 (fun h => absurd rfl h) (fun _ => rfl)
      have HBO := Lib.hid hbo
      have HB3 := Lib.hid hb3
      clear hbo hb3 hgr2 hgr3 hr1 hr2 hr3 hb1
      go_wp2_with fail
      refine (HS.out ad 0 0 w3 HBO.out (by omega)).mono ?_
      rintro e w4 ⟨rfl, rfl⟩
      go_wp2_with fail
      go_ret2
      exact ⟨ad, 0, rfl, HBO.out.below ((Below.refl _ _).alloc (Nat.le_refl _) _), HB3.out.alloc HB3.out.size _⟩
  · obtain ⟨ad0, hA0, -⟩ := HB.out w (A.map (·.add 16)) (Below.refl _ _) (fun _ => rfl) (fun h => absurd h hc16)
    cases A with
    | none => cases hA0
    | some ad =>
      clear hA0 ad0
      go_enter Try.func88, Try.ntmps88
      go_wp2_with fail
      refine HR.out.mono ?_
      rintro e w1 ⟨g, rfl, hr1, _, hb1, hg1, hg2⟩
      go_wp2_with fail
      refine (H1.out g w1 hr1).mono ?_
      rintro e w2 ⟨rfl, hr2, hgr2⟩
      go_wp2_with fail
      refine (H2.out g w2 hr2).mono ?_
      rintro e w3 ⟨rfl, hr3, hgr3⟩
      have hb3 : Below w.heap.size w w3 := (hb1.grown hgr2 hb1.size (by rintro k e; cases e; exact hg1)).grown hgr3 (Nat.le_trans hb1.size hgr2.size) (by rintro k e; cases e; exact hg1)
      obtain ⟨ad1, e1, hbo⟩ := HB.out w3 ((some ad).map (·.add 16)) hb3 (fun _ => rfl) (fun h => absurd h hc16)
      simp only [Option.map_some, Option.some.injEq] at e1
      subst e1
      have HBO := Lib.hid hbo
      have HB3 := Lib.hid hb3
      clear hbo hb3 hgr2 hgr3 hr1 hr2 hr3 hb1
      go_wp2_with fail
      refine (HS.out (ad.add 16) m (c - 16) w3 HBO.out (by omega)).mono ?_
      rintro e w4 ⟨rfl, rfl⟩
      go_wp2_with fail
      go_ret2
      exact ⟨ad.add 16, c - 16, rfl, HBO.out.below ((Below.refl _ _).alloc (Nat.le_refl _) _), HB3.out.alloc HB3.out.size _⟩

theorem first_any (A : Option Addr) (n c : Nat) (l : List UInt8) (w : World) (h : Hold w A n c l) (hn : n ≤ 1099511627776) :
    Calls Try.prog 88 #[.slice A n c] w (FirstPost w l) := by
  have hl := h.1
  have hc := h.2.1
  by_cases h16 : n < 16
  · refine (first_short A n c w h16).mono ?_
    rintro e w' ⟨rfl, hb⟩
    unfold FirstPost
    rw [if_pos (.inl (by omega))]
    exact ⟨rfl, hb⟩
  · have hR := oread_any A 16 c (l.take 16) w (h.take (by omega)) (by omega)
    by_cases hbad : badLen l
    · refine (first_bad A n c (l.take 16) _ _ (lenOf l) (sumOf l) w (by omega) hc hR (int_len (by omega)) (int_sum (by omega)) (by unfold badLen at hbad; omega) hn).mono ?_
      rintro e w' ⟨rfl, hb⟩
      unfold FirstPost
      rw [if_pos hbad]
      exact ⟨rfl, hb⟩
    · have hbl := bodyOf_length hbad
      refine (first_good A n c (l.take 16) _ _ (bodyOf l).length (crc (bodyOf l)) (sumOf l) (bodyOf l) w (by omega) hc hR (by rw [hbl.1]; exact int_len (by omega)) (int_sum (by omega)) (by omega) hn (crc_lt _)
        (fun w1 A' hb h1 h2 => (h.below hb).body hbad h1 h2) (fun ad m c' w3 hh hm => sum_one ad m c' (bodyOf l) w3 hh hm)).mono ?_
      rintro e w' ⟨ad, c', rfl, hh, hb⟩
      unfold FirstPost
      rw [if_neg hbad]
      exact ⟨ad, c', rfl, hh, hb⟩
end Go.Proofs.Ytbfhlleipeipbaa
