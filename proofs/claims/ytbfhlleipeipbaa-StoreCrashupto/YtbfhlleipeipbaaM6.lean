/-
  What is proved: the texts Op, Or in one: what each proves stands ahead of it. Conditions: those in each statement.
-/
import Derived.Test.YtbfhlleipeipbaaOread
import Derived.Laws.BytesArg
/- What is proved: what PutText and PutBool answer, in new memory. Conditions: those in each statement. -/
namespace Go.Proofs.Ytbfhlleipeipbaa
open Go.RowKit

set_option maxHeartbeats 400000 in
theorem putBool_any (A : Option Addr) (n c : Nat) (l : List UInt8) (x : Bool) (w : World) (h : Hold w A n c l) (hn : n ≤ 281474976710000) :
    Calls Try.prog 84 #[.slice A n c, .bool x] w (NewRow w (l ++ [if x then 1 else 0])) := by
  have hj := join_two A n c l [if x then 1 else 0] 157 w w h (Below.refl _ _) (by simp; omega)
  cases x
  all_goals
    simp only [bv, List.map, List.length, if_true, if_false, Bool.false_eq_true] at hj
    have HJ := Lib.hid hj
    clear h hj
    go_enter Try.func84, Try.ntmps84
    go_wp2_with (go_at_call 83; refine HJ.out.mono ?_; rintro e w2 ⟨g, n2, c2, rfl, hown, hb2⟩)
    go_ret
    exact ⟨g, n2, c2, rfl, hown, hb2⟩


theorem join_three (A A2 A3 : Option Addr) (n c n2 c2 n3 c3 : Nat) (l l2 l3 : List UInt8) (g : Nat) (w W : World) (hg : W.heap[g]? = some (.cells #[.slice A n c, .slice A2 n2 c2, .slice A3 n3 c3] 43 (0, 0)))
    (h : Hold W A n c l) (h2 : Hold W A2 n2 c2 l2) (h3 : Hold W A3 n3 c3 l3) (hb : Below w.heap.size w W) (hn : n + n2 + n3 ≤ 281474976710656) :
    Calls Try.prog 83 #[.slice (some ⟨g, 0, none⟩) 3 3] W (NewRow w (l ++ l2 ++ l3)) := by
  refine join_new _ [(A, n, c, l), (A2, n2, c2, l2), (A3, n3, c3, l3)] _ w 3 rfl ?_ ?_ (by omega) (by simp [tot]; omega) _ (by simp [cat]) hb
  · intro j hj
    rw [cell_of_row W g j _ 43 (0, 0) hg]
    match j, hj with
    | 0, _ => rfl
    | 1, _ => rfl
    | 2, _ => rfl
  · intro p hp
    simp at hp
    rcases hp with rfl | rfl | rfl
    · exact h
    · exact h2
    · exact h3

theorem Hold.str (W : World) (s : ByteArray) (cap : Nat) (fr : Nat × Nat) (k : Nat) (hk : k = W.heap.size) (hc : s.size ≤ cap) : Hold (W.alloc (.cells (bytesRow s cap) 5 fr)) (some ⟨k, 0, none⟩) s.size cap s.data.toList := by
  subst hk
  have hl : s.data.toList.length = s.size := by rw [Array.length_toList]; rfl
  refine ⟨hl, hc, (fun e => by cases e), fun _ => ⟨W.heap.size, 0, rfl, fun j hj => ?_⟩⟩
  rw [cell_of_row _ W.heap.size (0 + j) (bytesRow s cap) 5 fr (heap_alloc_new W _)]
  have hj' : j < s.data.size := by simpa using hj
  simp only [bytesRow, Nat.zero_add]
  rw [Array.getElem?_append_left (by simpa using hj')]
  simp [Array.getElem?_eq_getElem hj']

set_option maxHeartbeats 400000 in
theorem putText_any (A : Option Addr) (n c : Nat) (l : List UInt8) (s : ByteArray) (w : World) (h : Hold w A n c l) (hn : n + s.size ≤ 281474976710000) :
    Calls Try.prog 85 #[.slice A n c, .string s] w (NewRow w (l ++ dig s.size ++ s.data.toList)) := by
  obtain ⟨b0, b1, b2, b3, b4, b5, b6, b7, hd⟩ : ∃ b0 b1 b2 b3 b4 b5 b6 b7, dig s.size = [b0, b1, b2, b3, b4, b5, b6, b7] := ⟨_, _, _, _, _, _, _, _, rfl⟩
  have hnb := numberBytes_any s.size w
  rw [hd] at hnb ⊢
  simp only [bv, List.map] at hnb
  have HN := Lib.hid hnb
  have H := Lib.hid h
  clear hnb h hd
  have hconv := fun (W : World) => run_bytes_of_string (P := Try.prog) W 9 43 5 s Try.underlying9 Try.underlying43 Try.underlying5
  go_enter Try.func85, Try.ntmps85
  go_wp2_with (go_at_call 82; refine HN.out.mono ?_; rintro e w1 ⟨rfl, hb1⟩)
  have hge := grownCap_ge (w1.alloc (Obj.cells #[Value.int IntKind.u8 ↑b0.toNat, Value.int IntKind.u8 ↑b1.toNat, Value.int IntKind.u8 ↑b2.toNat, Value.int IntKind.u8 ↑b3.toNat, Value.int IntKind.u8 ↑b4.toNat, Value.int IntKind.u8 ↑b5.toNat, Value.int IntKind.u8 ↑b6.toNat, Value.int IntKind.u8 ↑b7.toNat] 138)) s.size 0 5
  clear hconv
  generalize grownCap _ s.size 0 5 = cap at *
  refine (join_three A (some ⟨w1.heap.size, 0, none⟩) (some ⟨w1.heap.size + 1, 0, none⟩) n c 8 8 s.size cap l [b0, b1, b2, b3, b4, b5, b6, b7] s.data.toList (w1.heap.size + 1 + 1) w _ ?_ ?_ ?_ ?_ ?_ ?_).mono ?_
  · exact heap_at _ _ _ (by simp)
  · exact (H.out.below hb1).below ((((Below.refl _ _).alloc (Nat.le_refl _) _).alloc (by simp) _).alloc (by simp; omega) _).drew
  · exact (Hold.new w1 [b0, b1, b2, b3, b4, b5, b6, b7] 138 (0, 0) _ rfl).below (((Below.refl _ _).alloc (Nat.le_refl _) _).alloc (by simp) _).drew
  · exact (Hold.str _ s cap _ _ (by simp) hge).below ((Below.refl _ _).alloc (Nat.le_refl _) _).drew
  · exact hb1.trans (((((Below.refl _ _).alloc hb1.size _).alloc (by simp; have := hb1.size; omega) _).alloc (by simp; have := hb1.size; omega) _).drew)
  · omega
  · rintro e w2 ⟨g, n2, c2, rfl, hown, hb2⟩
    go_wp2
    go_ret
    exact ⟨g, n2, c2, rfl, hown, hb2⟩

end Go.Proofs.Ytbfhlleipeipbaa

/- What is proved: what Count, Text, Bool and Done of a reader answer and leave. Conditions: those in each statement. -/
namespace Go.Proofs.Ytbfhlleipeipbaa
open Go.RowKit

def stCount (least : Int) (s : St) : Int × St :=
  if (stInt s).1 < 0 ∨ ((left (stInt s).2).length : Int) / max least 1 < (stInt s).1 then (0, none) else stInt s
def stText (s : St) : List UInt8 × St := ((left (stCount 1 s).2).take (stCount 1 s).1.toNat, stTake (stCount 1 s).1.toNat (stCount 1 s).2)
def stBool (s : St) : Bool × St :=
  match left s with
  | [] => (false, none)
  | b :: _ => if 1 < b.toNat then (false, none) else ((b.toNat : Int) == 1, stTake 1 s)

theorem stCount_bad (least : Int) (s : St) (h : (stInt s).1 < 0 ∨ ((left (stInt s).2).length : Int) / max least 1 < (stInt s).1) : stCount least s = (0, none) := by
  unfold stCount
  rw [if_pos h]
theorem stCount_good (least : Int) (s : St) (h : ¬ ((stInt s).1 < 0 ∨ ((left (stInt s).2).length : Int) / max least 1 < (stInt s).1)) : stCount least s = stInt s := by
  unfold stCount
  rw [if_neg h]
theorem quo_in (n : Nat) (least : Int) (hn : n ≤ 281474976710656) (hl : 1 ≤ least) : wrap64 ((n : Int) / least) = (n : Int) / least := by
  have h0 : 0 ≤ (n : Int) / least := Int.ediv_nonneg (by omega) (by omega)
  have h1 : (n : Int) / least ≤ n := Int.ediv_le_self _ (by omega)
  exact IntWalk.wrap64_in _ (by omega)

set_option maxHeartbeats 400000 in
theorem rcount_any (g : Nat) (least : Int) (s : St) (w : World) (h : Rdr w g s) (h1 : -9223372036854775808 ≤ least) (h2 : least ≤ 9223372036854775807) :
    Calls Try.prog 74 #[.pointer (some ⟨g, 0, none⟩), .int .i64 least] w (Left1 w g (.int .i64 (stCount least s).1) (stCount least s).2) := by
  have hi := int_any g s w h
  have hb := stInt_bounds s
  have hbad := stCount_bad least s
  have hgood := stCount_good least s
  generalize stCount least s = q at *
  generalize stInt s = r at *
  obtain ⟨x, s1⟩ := r
  obtain ⟨hb1, hb2⟩ := hb
  simp only at hi hb1 hb2 hbad hgood
  have HI := Lib.hid hi
  have HB := Lib.hid hbad
  have HO := Lib.hid hgood
  clear hi h hbad hgood
  by_cases hneg : x < 0
  · obtain rfl := HB.out (.inl hneg)
    go_enter Try.func74, Try.ntmps74
    go_wp2_with (first
      | (go_at_call 87; refine HI.out.mono ?_; rintro e w1 ⟨rfl, ⟨A, n, c, hg, hh, hn⟩, hgr⟩; have HS := Lib.hid (spoil_any g A n c _ w1 hg); clear hg hh)
      | (go_at_call 92; refine HS.out.mono ?_; rintro e w2 ⟨rfl, hr2, hgr2⟩))
    go_ret
    exact ⟨rfl, hr2, grown_trans hgr hgr2⟩
  by_cases hl : least < 1
  · go_enter Try.func74, Try.ntmps74
    go_wp2_with (first
      | (go_at_call 87; refine HI.out.mono ?_; rintro e w1 ⟨rfl, ⟨A, n, c, hg, hh, hn⟩, hgr⟩; have HS := Lib.hid (spoil_any g A n c _ w1 hg); have c0 := (cell_of_row w1 g 0 _ 142 (0, 0) hg); simp at c0; have HH := Lib.hid hh; have HG := Lib.hid hg; clear hg hh)
      | (go_at_call 92; refine HS.out.mono ?_; rintro e w2 ⟨rfl, hr2, hgr2⟩))
    · have ht : x < 0 ∨ ↑n < x := by assumption
      obtain rfl := HB.out (by rw [HH.out.len, show max least 1 = 1 by omega, Int.ediv_one]; exact ht)
      go_ret
      exact ⟨rfl, hr2, grown_trans hgr hgr2⟩
    · have ht : 0 ≤ x ∧ x ≤ ↑n := by assumption
      obtain rfl := HO.out (by rw [HH.out.len, show max least 1 = 1 by omega, Int.ediv_one]; omega)
      go_ret
      exact ⟨rfl, ⟨A, n, c, HG.out, HH.out, hn⟩, hgr⟩
  · go_enter Try.func74, Try.ntmps74
    go_wp2_with (first
      | (go_at_call 87; refine HI.out.mono ?_; rintro e w1 ⟨rfl, ⟨A, n, c, hg, hh, hn⟩, hgr⟩; have HS := Lib.hid (spoil_any g A n c _ w1 hg); have c0 := (cell_of_row w1 g 0 _ 142 (0, 0) hg); simp at c0; have HH := Lib.hid hh; have HG := Lib.hid hg; clear hg hh)
      | (go_at_call 92; refine HS.out.mono ?_; rintro e w2 ⟨rfl, hr2, hgr2⟩))
    · have ht : x < 0 ∨ wrap64 (↑n / least) < x := by assumption
      rw [quo_in n least hn (by omega)] at ht
      obtain rfl := HB.out (by rw [HH.out.len, show max least 1 = least by omega]; exact ht)
      go_ret
      exact ⟨rfl, hr2, grown_trans hgr hgr2⟩
    · have ht : 0 ≤ x ∧ x ≤ wrap64 (↑n / least) := by assumption
      rw [quo_in n least hn (by omega)] at ht
      obtain rfl := HO.out (by rw [HH.out.len, show max least 1 = least by omega]; omega)
      go_ret
      exact ⟨rfl, ⟨A, n, c, HG.out, HH.out, hn⟩, hgr⟩

theorem stCount_nonneg (s : St) : 0 ≤ (stCount 1 s).1 ∧ (stCount 1 s).1.toNat ≤ (left (stCount 1 s).2).length := by
  unfold stCount
  split
  · simp
  · simp at *
    omega

set_option maxHeartbeats 400000 in
theorem text_any (g : Nat) (s : St) (w : World) (h : Rdr w g s) :
    Calls Try.prog 72 #[.pointer (some ⟨g, 0, none⟩)] w (Left1 w g (.string ⟨(stText s).1.toArray⟩) (stText s).2) := by
  have hc := rcount_any g 1 s w h (by omega) (by omega)
  have hb := stCount_nonneg s
  unfold stText
  generalize stCount 1 s = r at *
  obtain ⟨x, s1⟩ := r
  obtain ⟨hb1, hb2⟩ := hb
  simp only at hc hb1 hb2 ⊢
  obtain ⟨k, rfl⟩ := Int.eq_ofNat_of_zero_le hb1
  simp only [Int.toNat_natCast] at hb2 ⊢
  have HC := Lib.hid hc
  have HB := Lib.hid hb2
  clear hc h hb1 hb2
  go_enter Try.func72, Try.ntmps72
  go_wp2_with (first
    | (go_at_call 74; refine HC.out.mono ?_; rintro e w1 ⟨rfl, hr, hgr⟩; have HT := Lib.hid (take_yes g k s1 w1 hr HB.out); clear hr)
    | (go_at_call 91; refine HT.out.mono ?_; rintro e w2 ⟨A, c, rfl, hh, hr2, hgr2⟩; have hcv := conv_hold hh; clear hh))
  go_ret
  exact ⟨rfl, hr2, grown_trans hgr hgr2⟩

set_option maxHeartbeats 400000 in
theorem bool_any (g : Nat) (s : St) (w : World) (h : Rdr w g s) :
    Calls Try.prog 73 #[.pointer (some ⟨g, 0, none⟩)] w (Left1 w g (.bool (stBool s).1) (stBool s).2) := by
  unfold stBool
  have hy : 1 ≤ (left s).length → Calls Try.prog 91 #[.pointer (some ⟨g, 0, none⟩), .int .i64 1] w (Taken w g 1 ((left s).take 1) (stTake 1 s)) := fun hk => take_yes g 1 s w h hk
  have hn : (left s).length < 1 → Calls Try.prog 91 #[.pointer (some ⟨g, 0, none⟩), .int .i64 1] w (Left1 w g (.tuple #[.slice none 0 0, .bool false]) none) := fun hk => take_no g 1 s w h hk
  clear h
  generalize left s = l at *
  cases l with
  | nil =>
    have HN := Lib.hid (hn (by simp))
    clear hy hn
    simp only
    go_enter Try.func73, Try.ntmps73
    go_wp2_with (go_at_call 91; refine HN.out.mono ?_; rintro e w1 ⟨rfl, hr, hgr⟩)
    go_ret
    exact ⟨rfl, hr, hgr⟩
  | cons b l =>
    have HY := Lib.hid (hy (by simp))
    clear hy hn
    simp only [List.take_succ_cons, List.take_zero] at HY ⊢
    have hbl := b.toNat_lt
    by_cases hb : 1 < b.toNat
    · rw [if_pos hb]
      have hbi : (1 : Int) < (b.toNat : Int) := by omega
      go_enter Try.func73, Try.ntmps73
      go_wp2_with (first
        | (go_at_call 91; refine HY.out.mono ?_; rintro e w1 ⟨A, c, rfl, hh, ⟨A1, n1, c1, hg1, hh1, hn1⟩, hgr⟩; obtain ⟨b0, off, hl, hA, hc⟩ := hh.at (k := 0) (by omega); rw [hA]; simp only [Nat.add_zero, List.getElem_cons_zero] at hc; have HS := Lib.hid (spoil_any g A1 n1 c1 _ w1 hg1); clear hA hh hg1 hh1)
        | (go_at_call 92; refine HS.out.mono ?_; rintro e w2 ⟨rfl, hr2, hgr2⟩))
      go_ret
      exact ⟨rfl, hr2, grown_trans hgr hgr2⟩
    · rw [if_neg hb]
      have hbi : (b.toNat : Int) ≤ 1 := by omega
      go_enter Try.func73, Try.ntmps73
      go_wp2_with (go_at_call 91; refine HY.out.mono ?_; rintro e w1 ⟨A, c, rfl, hh, hr, hgr⟩; obtain ⟨b0, off, hl, hA, hc⟩ := hh.at (k := 0) (by omega); rw [hA]; simp only [Nat.add_zero, List.getElem_cons_zero] at hc; clear hA hh)
      go_ret
      exact ⟨rfl, hr, hgr⟩

def stDone (s : St) : Bool := !s.isNone && (((left s).length : Int) == 0)
set_option maxHeartbeats 400000 in
theorem done_any (g : Nat) (s : St) (w : World) (h : Rdr w g s) :
    Calls Try.prog 75 #[.pointer (some ⟨g, 0, none⟩)] w fun e w' => e = .returned (.bool (stDone s)) ∧ w = w' := by
  obtain ⟨A, n, c, hg, hh, hn⟩ := h
  unfold stDone
  rw [hh.1]
  have c0 := cell_of_row w g 0 _ 142 (0, 0) hg
  have c1 := cell_of_row w g 1 _ 142 (0, 0) hg
  simp at c0 c1
  clear hg hh
  cases s with
  | none =>
    simp only [Option.isNone_none] at c1 ⊢
    go_enter Try.func75, Try.ntmps75
    go_wp2
    go_ret
    exact ⟨rfl, rfl⟩
  | some l =>
    simp only [Option.isNone_some] at c1 ⊢
    go_enter Try.func75, Try.ntmps75
    go_wp2
    go_ret
    exact ⟨rfl, rfl⟩

end Go.Proofs.Ytbfhlleipeipbaa
