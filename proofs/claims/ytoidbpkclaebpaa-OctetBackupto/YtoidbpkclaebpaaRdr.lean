/-
  What is proved: what the reader's methods answer and leave, told by the bytes that are left, or that something could not be read.
-/
import Derived.Test.YtoidbpkclaebpaaRefs
namespace Go.Proofs.Ytoidbpkclaebpaa
open Go.RowKit

/-- what a reader has: the bytes that are left; none: it is bad -/
abbrev St := Option (List UInt8)
def left (s : St) : List UInt8 := s.getD []
def stTake (k : Nat) (s : St) : St := s.map (·.drop k)
def stInt (s : St) : Int × St := if 8 ≤ (left s).length then (rd ((left s).take 8), stTake 8 s) else (0, none)
def stCount (least : Int) (s : St) : Int × St :=
  if (stInt s).1 < 0 ∨ ((left (stInt s).2).length : Int) / max least 1 < (stInt s).1 then (0, none) else stInt s
def stText (s : St) : List UInt8 × St := ((left (stCount 1 s).2).take (stCount 1 s).1.toNat, stTake (stCount 1 s).1.toNat (stCount 1 s).2)
def stBool (s : St) : Bool × St :=
  match left s with
  | [] => (false, none)
  | b :: _ => if 1 < b.toNat then (false, none) else ((b.toNat : Int) == 1, stTake 1 s)

/-- a reader of the program's lies at block g -/
def Rdr (w : World) (g : Nat) (s : St) : Prop :=
  ∃ A n c, w.heap[g]? = some (.cells #[.slice A n c, .bool s.isNone] 54 (0, 0)) ∧ Hold w A n c (left s) ∧ n ≤ 281474976710656

section
variable {w w' : World} {g : Nat}
theorem Hold.grown {A : Option Addr} {n c : Nat} {l : List UInt8} (h : Hold w A n c l) (hg : w.grownBy w' (some g)) (hne : ∀ b off, 0 < n → A = some ⟨b, off, none⟩ → b ≠ g) : Hold w' A n c l := by
  refine ⟨h.1, h.2.1, h.2.2.1, fun hn => ?_⟩
  obtain ⟨b, off, e, hc⟩ := h.2.2.2 hn
  refine ⟨b, off, e, fun j hj => ?_⟩
  exact hg.cell (hc j hj) (fun e' => hne b off hn e (by injection e'))
/-- bytes never lie in a block of another kind -/
theorem Hold.apart {A : Option Addr} {n c : Nat} {l : List UInt8} (h : Hold w A n c l) {cs : Array Value} {t : TypeId} {fr : Nat × Nat} (hg : w.heap[g]? = some (.cells cs t fr)) (hcs : ∀ v ∈ cs.toList, ∀ x, v ≠ .int .u8 x) :
    ∀ b off, 0 < n → A = some ⟨b, off, none⟩ → b ≠ g := by
  intro b off hn e hbg
  obtain ⟨b', off', e', hc⟩ := h.2.2.2 hn
  rw [e] at e'
  injection e' with e'
  injection e' with h1 h2
  subst h1 h2 hbg
  have := hc 0 (by rw [h.1]; exact hn)
  rw [cell_of_row w b _ cs t fr hg] at this
  exact hcs _ (by rw [Array.getElem?_eq_some_iff] at this; obtain ⟨hlt, h⟩ := this; rw [← h]; simp) _ rfl
theorem set_block {w : World} {g i : Nat} {cs : Array Value} {t : TypeId} (hg : w.heap[g]? = some (.cells cs t (0, 0))) (u : Value) : (w.setCell ⟨g, i, none⟩ u).heap[g]? = some (.cells (cs.setIfInBounds i u) t (0, 0)) := by
  simp [World.setCell, Array.getElem?_modify, hg]
theorem set_grown (w : World) (g i : Nat) (u : Value) : w.grownBy (w.setCell ⟨g, i, none⟩ u) (some g) :=
  ⟨rfl, rfl, rfl, by simp [World.setCell], fun k _ hk => Below.heap_setCell _ _ _ _ (fun e => hk (by rw [e]))⟩
theorem grown_trans {w1 w2 w3 : World} {r : Option Nat} (h : w1.grownBy w2 r) (k : w2.grownBy w3 r) : w1.grownBy w3 r :=
  ⟨k.os.trans h.os, k.tape.trans h.tape, k.output.trans h.output, Nat.le_trans h.size k.size, fun i hi hne => (k.block i (Nat.lt_of_lt_of_le hi h.size) hne).trans (h.block i hi hne)⟩
theorem rdr_cs (A : Option Addr) (n c : Nat) (x : Bool) : ∀ v ∈ (#[Value.slice A n c, .bool x] : Array Value).toList, ∀ y, v ≠ .int .u8 y := by
  intro v hv y
  simp at hv
  rcases hv with rfl | rfl <;> simp
end

/-- what a method leaves: its answer, what the reader has, and that nothing else has turned -/
def Left1 (w : World) (g : Nat) (v : Value) (s : St) (e : Ending) (w' : World) : Prop := e = .returned v ∧ Rdr w' g s ∧ w.grownBy w' (some g)
def Taken (w : World) (g k : Nat) (l : List UInt8) (s : St) (e : Ending) (w' : World) : Prop :=
  ∃ A c, e = .returned (.tuple #[.slice A k c, .bool true]) ∧ Hold w' A k c l ∧ Rdr w' g s ∧ w.grownBy w' (some g)

set_option maxHeartbeats 400000 in
theorem spoil_any (g : Nat) (A : Option Addr) (n c : Nat) (bad : Bool) (w : World) (hg : w.heap[g]? = some (.cells #[.slice A n c, .bool bad] 54 (0, 0))) :
    Calls Try.prog 34 #[.pointer (some ⟨g, 0, none⟩)] w (Left1 w g (.tuple #[]) none) := by
  have c0 := cell_of_row w g 0 _ 54 (0, 0) hg
  have c1 := cell_of_row w g 1 _ 54 (0, 0) hg
  have f0 : w.frozen? ⟨g, 0, none⟩ = false := by simp [World.frozen?, hg]
  have f1 : w.frozen? ⟨g, 1, none⟩ = false := by simp [World.frozen?, hg]
  simp at c0 c1
  have HG := Lib.hid hg
  clear hg
  go_enter Try.func34, Try.ntmps34
  go_wp2
  go_end0
  refine ⟨rfl, ⟨none, 0, 0, ?_, Hold.nil _, by omega⟩, grown_trans (set_grown _ _ _ _) (set_grown _ _ _ _)⟩
  exact set_block (set_block HG.out _) _

set_option maxHeartbeats 400000 in
theorem take_yes (g k : Nat) (s : St) (w : World) (h : Rdr w g s) (hk : k ≤ (left s).length) :
    Calls Try.prog 33 #[.pointer (some ⟨g, 0, none⟩), .int .i64 k] w (Taken w g k ((left s).take k) (stTake k s)) := by
  obtain ⟨A, n, c, hg, hh, hn⟩ := h
  have hl := hh.1
  have hnc := hh.2.1
  have c0 := cell_of_row w g 0 _ 54 (0, 0) hg
  have f0 : w.frozen? ⟨g, 0, none⟩ = false := by simp [World.frozen?, hg]
  simp at c0
  have hkn : k ≤ n := by omega
  have fin : ∀ A', (c ≠ k → A' = A.map (·.add k)) → (c = k → A' = A) → Hold (w.setCell ⟨g, 0, none⟩ (.slice A' (n - k) (c - k))) A k c ((left s).take k) ∧ Rdr (w.setCell ⟨g, 0, none⟩ (.slice A' (n - k) (c - k))) g (stTake k s) ∧ w.grownBy (w.setCell ⟨g, 0, none⟩ (.slice A' (n - k) (c - k))) (some g) := by
    intro A' h1 h2
    have hgr := set_grown w g 0 (.slice A' (n - k) (c - k))
    have ha := hh.apart hg (rdr_cs _ _ _ _)
    have hw := hh.grown hgr ha
    refine ⟨hw.take hkn, ⟨A', n - k, c - k, ?_, ?_, by omega⟩, hgr⟩
    · have := set_block (i := 0) hg (.slice A' (n - k) (c - k))
      rw [this]
      cases s <;> rfl
    · have := hw.drop hkn h1 h2
      cases s <;> simpa [left, stTake] using this
  have HF := Lib.hid fin
  clear fin hg hh hl hk
  by_cases hck : c = k
  · subst hck
    go_enter Try.func33, Try.ntmps33
    go_wp2
    go_ret2
    obtain ⟨r1, r2, r3⟩ := HF.out A (fun h => absurd rfl h) (fun _ => rfl)
    rw [Nat.sub_self, show n - c = 0 by omega] at r1 r2 r3
    exact ⟨A, c, rfl, r1, r2, r3⟩
  · go_enter Try.func33, Try.ntmps33
    go_wp2
    go_ret2
    obtain ⟨r1, r2, r3⟩ := HF.out (A.map (·.add k)) (fun _ => rfl) (fun h => absurd h hck)
    exact ⟨A, c, rfl, r1, r2, r3⟩

set_option maxHeartbeats 400000 in
theorem take_no (g k : Nat) (s : St) (w : World) (h : Rdr w g s) (hk : (left s).length < k) :
    Calls Try.prog 33 #[.pointer (some ⟨g, 0, none⟩), .int .i64 k] w (Left1 w g (.tuple #[.slice none 0 0, .bool false]) none) := by
  obtain ⟨A, n, c, hg, hh, hn⟩ := h
  have hl := hh.1
  have c0 := cell_of_row w g 0 _ 54 (0, 0) hg
  simp at c0
  have hkn : n < k := by omega
  have HS := Lib.hid (spoil_any g A n c _ w hg)
  clear hg hh hl hk
  go_enter Try.func33, Try.ntmps33
  go_wp2_with (go_at_call 34; refine HS.out.mono ?_; rintro e w1 ⟨rfl, hr, hgr⟩)
  go_ret2
  exact ⟨rfl, hr, hgr⟩

theorem num_take (l : List UInt8) (k : Nat) (h : k < l.length) : num (l.take (k + 1)) = num (l.take k) * 256 + l[k].toNat := by
  rw [List.take_succ_eq_append_getElem h, num_snoc]
theorem num_take_lt (l : List UInt8) (k : Nat) (h : k ≤ 7) : num (l.take k) < 72057594037927936 := by
  have h1 := num_lt (l.take k)
  have h2 : (l.take k).length ≤ 7 := by simp; omega
  have h3 : 256 ^ (l.take k).length ≤ 256 ^ 7 := Nat.pow_le_pow_right (by omega) h2
  omega

theorem or_byte (u x : Nat) (hu : u < 72057594037927936) (hx : x < 256) : bits .or .u64 ((u : Int) * 256) (x : Int) = ((u * 256 + x : Nat) : Int) := by
  have h1 : ((u : Int) * 256) = ((u * 256 : Nat) : Int) := by omega
  rw [h1, u64_or_nat _ _ (by omega) (by omega)]
  congr 1
  have := Nat.shiftLeft_add_eq_or_of_lt (i := 8) (b := x) (by omega) u
  rw [Nat.shiftLeft_eq] at this
  simpa using this.symm

set_option maxHeartbeats 400000 in
theorem int_yes (g : Nat) (s : St) (w : World) (h : Rdr w g s) (hk : 8 ≤ (left s).length) :
    Calls Try.prog 17 #[.pointer (some ⟨g, 0, none⟩)] w (Left1 w g (.int .i64 (rd ((left s).take 8))) (stTake 8 s)) := by
  have ht : Calls Try.prog 33 #[.pointer (some ⟨g, 0, none⟩), .int .i64 8] w (Taken w g 8 ((left s).take 8) (stTake 8 s)) := take_yes g 8 s w h hk
  have hl8 : ((left s).take 8).length = 8 := by simp; omega
  generalize (left s).take 8 = l at *
  have HT := Lib.hid ht
  have HL := Lib.hid hl8
  clear ht hk h hl8
  go_enter Try.func17, Try.ntmps17
  go_wp2_with (go_at_call 33; refine HT.out.mono ?_; rintro e w1 ⟨A, c, rfl, hh, hr, hgr⟩; have HH := Lib.hid hh; clear hh)
  go_loop [5, 17] (fun u i => ∃ k : Nat, k ≤ 8 ∧ i = .int .i64 k ∧ u = .int .u64 (num (l.take k))) (fun _ i => 8 - (intOf i).toNat)
  case atStart => exact ⟨0, Nat.zero_le _, rfl, rfl⟩
  case round =>
    obtain ⟨k, hk, rfl, rfl⟩ := hrel
    by_cases hlt : k < 8
    · obtain ⟨b, off, hkl, rfl, hc⟩ := HH.out.at hlt
      have hs := Lib.hid (num_take l k hkl)
      have hu := num_take_lt l k (by omega)
      have hcb := (l[k]).toNat_lt
      generalize num (l.take k) = u at *
      generalize (l[k]).toNat = x at *
      go_wp2
      rw [or_byte u x hu hcb]
      go_round
      case rel => exact ⟨k + 1, by omega, by go_num, by rw [hs.out]⟩
      case measure => simp [intOf]; omega
    · obtain rfl : k = 8 := by omega
      have ht : l.take 8 = l := List.take_of_length_le (by rw [HL.out]; omega)
      rw [ht]
      go_wp2
      go_ret
      exact ⟨rfl, hr, hgr⟩

set_option maxHeartbeats 400000 in
theorem int_no (g : Nat) (s : St) (w : World) (h : Rdr w g s) (hk : (left s).length < 8) :
    Calls Try.prog 17 #[.pointer (some ⟨g, 0, none⟩)] w (Left1 w g (.int .i64 0) none) := by
  have ht : Calls Try.prog 33 #[.pointer (some ⟨g, 0, none⟩), .int .i64 8] w (Left1 w g (.tuple #[.slice none 0 0, .bool false]) none) := take_no g 8 s w h hk
  have HT := Lib.hid ht
  clear ht hk h
  go_enter Try.func17, Try.ntmps17
  go_wp2_with (go_at_call 33; refine HT.out.mono ?_; rintro e w1 ⟨rfl, hr, hgr⟩)
  go_ret
  exact ⟨rfl, hr, hgr⟩

theorem int_any (g : Nat) (s : St) (w : World) (h : Rdr w g s) :
    Calls Try.prog 17 #[.pointer (some ⟨g, 0, none⟩)] w (Left1 w g (.int .i64 (stInt s).1) (stInt s).2) := by
  unfold stInt
  split
  · exact int_yes g s w h ‹_›
  · exact int_no g s w h (by omega)

theorem stInt_bounds (s : St) : -9223372036854775808 ≤ (stInt s).1 ∧ (stInt s).1 ≤ 9223372036854775807 := by
  unfold stInt
  split
  · exact rd_bounds _
  · exact ⟨by omega, by omega⟩

theorem stCount_bad (least : Int) (s : St) (h : (stInt s).1 < 0 ∨ ((left (stInt s).2).length : Int) / max least 1 < (stInt s).1) : stCount least s = (0, none) := by
  unfold stCount
  rw [if_pos h]
theorem stCount_good (least : Int) (s : St) (h : ¬ ((stInt s).1 < 0 ∨ ((left (stInt s).2).length : Int) / max least 1 < (stInt s).1)) : stCount least s = stInt s := by
  unfold stCount
  rw [if_neg h]
theorem quo_in (n : Nat) (least : Int) (hn : n ≤ 281474976710656) (hl : 1 ≤ least) : wrap64 ((n : Int) / least) = (n : Int) / least := by
  have h0 : 0 ≤ (n : Int) / least := Int.ediv_nonneg (by omega) (by omega)
  have h1 : (n : Int) / least ≤ n := Int.ediv_le_self _ (by omega)
  exact IntWalk.wrap64_in _ (by omega)

set_option maxHeartbeats 400000 in
theorem count_any (g : Nat) (least : Int) (s : St) (w : World) (h : Rdr w g s) (h1 : -9223372036854775808 ≤ least) (h2 : least ≤ 9223372036854775807) :
    Calls Try.prog 23 #[.pointer (some ⟨g, 0, none⟩), .int .i64 least] w (Left1 w g (.int .i64 (stCount least s).1) (stCount least s).2) := by
  have hi := int_any g s w h
  have hb := stInt_bounds s
  have hbad := stCount_bad least s
  have hgood := stCount_good least s
  generalize stCount least s = q at *
  generalize stInt s = r at *
  obtain ⟨x, s1⟩ := r
  obtain ⟨hb1, hb2⟩ := hb
  simp only at hi hb1 hb2 hbad hgood
  have HI := Lib.hid hi
  have HB := Lib.hid hbad
  have HO := Lib.hid hgood
  clear hi h hbad hgood
  by_cases hneg : x < 0
  · obtain rfl := HB.out (.inl hneg)
    go_enter Try.func23, Try.ntmps23
    go_wp2_with (first
      | (go_at_call 17; refine HI.out.mono ?_; rintro e w1 ⟨rfl, ⟨A, n, c, hg, hh, hn⟩, hgr⟩; have HS := Lib.hid (spoil_any g A n c _ w1 hg); clear hg hh)
      | (go_at_call 34; refine HS.out.mono ?_; rintro e w2 ⟨rfl, hr2, hgr2⟩))
    go_ret
    exact ⟨rfl, hr2, grown_trans hgr hgr2⟩
  by_cases hl : least < 1
  · go_enter Try.func23, Try.ntmps23
    go_wp2_with (first
      | (go_at_call 17; refine HI.out.mono ?_; rintro e w1 ⟨rfl, ⟨A, n, c, hg, hh, hn⟩, hgr⟩; have HS := Lib.hid (spoil_any g A n c _ w1 hg); have c0 := (cell_of_row w1 g 0 _ 54 (0, 0) hg); simp at c0; have HH := Lib.hid hh; have HG := Lib.hid hg; clear hg hh)
      | (go_at_call 34; refine HS.out.mono ?_; rintro e w2 ⟨rfl, hr2, hgr2⟩))
    · have ht : x < 0 ∨ ↑n < x := by assumption
      obtain rfl := HB.out (by rw [HH.out.len, show max least 1 = 1 by omega, Int.ediv_one]; exact ht)
      go_ret
      exact ⟨rfl, hr2, grown_trans hgr hgr2⟩
    · have ht : 0 ≤ x ∧ x ≤ ↑n := by assumption
      obtain rfl := HO.out (by rw [HH.out.len, show max least 1 = 1 by omega, Int.ediv_one]; omega)
      go_ret
      exact ⟨rfl, ⟨A, n, c, HG.out, HH.out, hn⟩, hgr⟩
  · go_enter Try.func23, Try.ntmps23
    go_wp2_with (first
      | (go_at_call 17; refine HI.out.mono ?_; rintro e w1 ⟨rfl, ⟨A, n, c, hg, hh, hn⟩, hgr⟩; have HS := Lib.hid (spoil_any g A n c _ w1 hg); have c0 := (cell_of_row w1 g 0 _ 54 (0, 0) hg); simp at c0; have HH := Lib.hid hh; have HG := Lib.hid hg; clear hg hh)
      | (go_at_call 34; refine HS.out.mono ?_; rintro e w2 ⟨rfl, hr2, hgr2⟩))
    · have ht : x < 0 ∨ wrap64 (↑n / least) < x := by assumption
      rw [quo_in n least hn (by omega)] at ht
      obtain rfl := HB.out (by rw [HH.out.len, show max least 1 = least by omega]; exact ht)
      go_ret
      exact ⟨rfl, hr2, grown_trans hgr hgr2⟩
    · have ht : 0 ≤ x ∧ x ≤ wrap64 (↑n / least) := by assumption
      rw [quo_in n least hn (by omega)] at ht
      obtain rfl := HO.out (by rw [HH.out.len, show max least 1 = least by omega]; omega)
      go_ret
      exact ⟨rfl, ⟨A, n, c, HG.out, HH.out, hn⟩, hgr⟩

theorem stCount_nonneg (s : St) : 0 ≤ (stCount 1 s).1 ∧ (stCount 1 s).1.toNat ≤ (left (stCount 1 s).2).length := by
  unfold stCount
  split
  · simp
  · simp at *
    omega

set_option maxHeartbeats 400000 in
theorem text_any (g : Nat) (s : St) (w : World) (h : Rdr w g s) :
    Calls Try.prog 19 #[.pointer (some ⟨g, 0, none⟩)] w (Left1 w g (.string ⟨(stText s).1.toArray⟩) (stText s).2) := by
  have hc := count_any g 1 s w h (by omega) (by omega)
  have hb := stCount_nonneg s
  unfold stText
  generalize stCount 1 s = r at *
  obtain ⟨x, s1⟩ := r
  obtain ⟨hb1, hb2⟩ := hb
  simp only at hc hb1 hb2 ⊢
  obtain ⟨k, rfl⟩ := Int.eq_ofNat_of_zero_le hb1
  simp only [Int.toNat_natCast] at hb2 ⊢
  have HC := Lib.hid hc
  have HB := Lib.hid hb2
  clear hc h hb1 hb2
  go_enter Try.func19, Try.ntmps19
  go_wp2_with (first
    | (go_at_call 23; refine HC.out.mono ?_; rintro e w1 ⟨rfl, hr, hgr⟩; have HT := Lib.hid (take_yes g k s1 w1 hr HB.out); clear hr)
    | (go_at_call 33; refine HT.out.mono ?_; rintro e w2 ⟨A, c, rfl, hh, hr2, hgr2⟩; have hcv := conv_hold hh; clear hh))
  go_ret
  exact ⟨rfl, hr2, grown_trans hgr hgr2⟩

set_option maxHeartbeats 400000 in
theorem bool_any (g : Nat) (s : St) (w : World) (h : Rdr w g s) :
    Calls Try.prog 21 #[.pointer (some ⟨g, 0, none⟩)] w (Left1 w g (.bool (stBool s).1) (stBool s).2) := by
  unfold stBool
  have hy : 1 ≤ (left s).length → Calls Try.prog 33 #[.pointer (some ⟨g, 0, none⟩), .int .i64 1] w (Taken w g 1 ((left s).take 1) (stTake 1 s)) := fun hk => take_yes g 1 s w h hk
  have hn : (left s).length < 1 → Calls Try.prog 33 #[.pointer (some ⟨g, 0, none⟩), .int .i64 1] w (Left1 w g (.tuple #[.slice none 0 0, .bool false]) none) := fun hk => take_no g 1 s w h hk
  clear h
  generalize left s = l at *
  cases l with
  | nil =>
    have HN := Lib.hid (hn (by simp))
    clear hy hn
    simp only
    go_enter Try.func21, Try.ntmps21
    go_wp2_with (go_at_call 33; refine HN.out.mono ?_; rintro e w1 ⟨rfl, hr, hgr⟩)
    go_ret
    exact ⟨rfl, hr, hgr⟩
  | cons b l =>
    have HY := Lib.hid (hy (by simp))
    clear hy hn
    simp only [List.take_succ_cons, List.take_zero] at HY ⊢
    have hbl := b.toNat_lt
    by_cases hb : 1 < b.toNat
    · rw [if_pos hb]
      have hbi : (1 : Int) < (b.toNat : Int) := by omega
      go_enter Try.func21, Try.ntmps21
      go_wp2_with (first
        | (go_at_call 33; refine HY.out.mono ?_; rintro e w1 ⟨A, c, rfl, hh, ⟨A1, n1, c1, hg1, hh1, hn1⟩, hgr⟩; obtain ⟨b0, off, hl, hA, hc⟩ := hh.at (k := 0) (by omega); rw [hA]; simp only [Nat.add_zero, List.getElem_cons_zero] at hc; have HS := Lib.hid (spoil_any g A1 n1 c1 _ w1 hg1); clear hA hh hg1 hh1)
        | (go_at_call 34; refine HS.out.mono ?_; rintro e w2 ⟨rfl, hr2, hgr2⟩))
      go_ret
      exact ⟨rfl, hr2, grown_trans hgr hgr2⟩
    · rw [if_neg hb]
      have hbi : (b.toNat : Int) ≤ 1 := by omega
      go_enter Try.func21, Try.ntmps21
      go_wp2_with (go_at_call 33; refine HY.out.mono ?_; rintro e w1 ⟨A, c, rfl, hh, hr, hgr⟩; obtain ⟨b0, off, hl, hA, hc⟩ := hh.at (k := 0) (by omega); rw [hA]; simp only [Nat.add_zero, List.getElem_cons_zero] at hc; clear hA hh)
      go_ret
      exact ⟨rfl, hr, hgr⟩

set_option maxHeartbeats 400000 in
theorem bad_any (g : Nat) (s : St) (w : World) (h : Rdr w g s) :
    Calls Try.prog 25 #[.pointer (some ⟨g, 0, none⟩)] w fun e w' => e = .returned (.bool s.isNone) ∧ w = w' := by
  obtain ⟨A, n, c, hg, hh, hn⟩ := h
  have c1 := cell_of_row w g 1 _ 54 (0, 0) hg
  simp at c1
  clear hg hh
  go_enter Try.func25, Try.ntmps25
  go_wp2
  go_ret
  exact ⟨rfl, rfl⟩

set_option maxHeartbeats 400000 in
theorem left_any (g : Nat) (s : St) (w : World) (h : Rdr w g s) :
    Calls Try.prog 26 #[.pointer (some ⟨g, 0, none⟩)] w fun e w' => e = .returned (.int .i64 ((left s).length : Int)) ∧ w = w' := by
  obtain ⟨A, n, c, hg, hh, hn⟩ := h
  have c0 := cell_of_row w g 0 _ 54 (0, 0) hg
  simp at c0
  rw [hh.1]
  clear hg hh
  go_enter Try.func26, Try.ntmps26
  go_wp2
  go_ret
  exact ⟨rfl, rfl⟩

def stDone (s : St) : Bool := !s.isNone && (((left s).length : Int) == 0)
set_option maxHeartbeats 400000 in
theorem done_any (g : Nat) (s : St) (w : World) (h : Rdr w g s) :
    Calls Try.prog 28 #[.pointer (some ⟨g, 0, none⟩)] w fun e w' => e = .returned (.bool (stDone s)) ∧ w = w' := by
  obtain ⟨A, n, c, hg, hh, hn⟩ := h
  unfold stDone
  rw [hh.1]
  have c0 := cell_of_row w g 0 _ 54 (0, 0) hg
  have c1 := cell_of_row w g 1 _ 54 (0, 0) hg
  simp at c0 c1
  clear hg hh
  cases s with
  | none =>
    simp only [Option.isNone_none] at c1 ⊢
    go_enter Try.func28, Try.ntmps28
    go_wp2
    go_ret
    exact ⟨rfl, rfl⟩
  | some l =>
    simp only [Option.isNone_some] at c1 ⊢
    go_enter Try.func28, Try.ntmps28
    go_wp2
    go_ret
    exact ⟨rfl, rfl⟩

end Go.Proofs.Ytoidbpkclaebpaa
