/-
  What is proved: ValueKeeps answers true, whatever its input (its walk). Conditions: those in each statement.
-/
import Derived.Test.YtnmailhlncchmaaDoorXgr
import Derived.Test.YtnmailhlncchmaaDoorXl
import Derived.Test.YtnmailhlncchmaaDoorSsb
namespace Go.Proofs.YtnmailhlncchmaaDoor
open Go.RowKit Go.Lib

def zR : Vr := ⟨⟨#[]⟩, ⟨0, 0, ⟨#[]⟩⟩⟩
theorem HR.take {w : World} {A : Option Addr} {n c : Nat} {l : List Vr} (h : HR w A n c l) (k : Nat) (hk : k ≤ n) : HR w A k c (l.take k) := by
  obtain ⟨h1, h2, h3, h4⟩ := h
  refine ⟨by rw [List.length_take]; omega, by omega, fun h0 => ?_, h4⟩
  obtain ⟨b, o, hA, hlt, hH⟩ := h3 (by omega)
  refine ⟨b, o, hA, hlt, fun j u hj => ?_⟩
  rw [← rwV_take, List.getElem?_take] at hj
  split at hj
  · exact hH j u hj
  · cases hj
theorem set_nm (nm : ByteArray) : ∀ (l : List Vr) (p : Nat) (h : p < l.length), splice (rwV l) (p * 4) [.string nm] = rwV (l.set p ⟨nm, l[p].v⟩)
  | [], p, h => by simp at h
  | x :: l, 0, h => by simp [splice, rwV_cons, encR]
  | x :: l, p + 1, h => by
    rw [rwV_cons, splice_one _ _ _ _ (by show 4 ≤ _; omega), show (p + 1) * 4 - (encR x).length = p * 4 by show (p + 1) * 4 - 4 = _; omega, set_nm nm l p (by simpa using h)]
    rfl
theorem OwR.setN {w : World} {B g n c : Nat} {l : List Vr} (h : OwR w B (some ⟨g, 0, none⟩) n c l) (hB : B ≤ g) (p : Nat) (hp : p < l.length) (nm : ByteArray) :
    OwR (w.setCell ⟨g, p * 4, none⟩ (.string nm)) B (some ⟨g, 0, none⟩) n c (l.set p ⟨nm, l[p].v⟩) := by
  have hn : l.length = n := h.hr.1.1
  have h2 := own_setCells (own_un h) (p * 4) [.string nm] (by simp; omega)
  rw [set_nm nm l p hp] at h2
  exact own_re h2 hB
theorem run_copy_var (w : World) (A : Option Addr) (n c m R : Nat) (l : List Vr) (h : HR w A n c l) (hc0 : A = none → c = 0) (hm : n ≤ m) (cur : Array Value) (hR : w.heap[R]? = some (.cells cur 42 (0, 0))) (hs : cur.size = m * 4) (ty : TypeId) (dc : Nat) :
    (Builtin.copy_ #[33, 33] ty #[.slice (some ⟨R, 0, none⟩) m dc, .slice A n c]).run Tryd.prog w = .ok (goInt (n : Int)) (w.setCells R 0 (rwV l)) := by
  have e : Nat.min n m = n := by simp only [Nat.min_def]; split <;> omega
  have hll := h.1
  rcases h.2.2.2 with rfl | ⟨b, o, rfl⟩
  · obtain rfl : c = 0 := hc0 rfl
    obtain rfl : n = 0 := by have := h.2.1; omega
    obtain rfl : l = [] := List.length_eq_zero_iff.1 hll
    obtain ⟨i0, hi, _, _, _⟩ := info42'
    simp [Builtin.copy_, run_underlying Tryd.underlying33, Builtin.lenOf, Builtin.firstCells, sizeOf, typeInfo, hi, storeCells, rwV]
    rfl
  · have := run_copy_k w 33 33 ty 42 R 0 m dc 4 ⟨b, o, none⟩ n c (rwV l) Tryd.underlying33 size42 (by rw [rwV_length, e, hll])
      (fun j v hj => by
        obtain ⟨b', o', hA, _, hH⟩ := h.2.2.1 (by have h9 : j < (rwV l).length := (List.getElem?_eq_some_iff.1 hj).1; rw [rwV_length] at h9; omega)
        cases hA
        rw [Addr.add_lit]
        exact hH j v hj)
      (fun j hj => by rw [cell_of_row w R _ cur 42 (0, 0) hR, Array.getElem?_eq_getElem (by rw [hs]; rw [rwV_length] at hj; omega)]; rfl)
      (fun j _ => by simp [World.frozen?, hR]) (rwV_one l)
    rw [e] at this
    exact this
theorem made_rw (N : Nat) : (madeCells (Value.agg #[.string ⟨#[]⟩, .int .i64 0, .int .i64 0, .string ⟨#[]⟩]).cells (N * 4)).toList = rwV (List.replicate N zR) := by
  apply List.ext_getElem?
  intro j
  by_cases hj : j < N * 4
  · have h1 : j / 4 < (List.replicate N zR).length := by rw [List.length_replicate]; omega
    have h2 := rwV_get (List.replicate N zR) (j / 4) h1 (j % 4) (by omega)
    rw [show j / 4 * 4 + j % 4 = j by omega, List.getElem_replicate] at h2
    rw [h2]
    have h4 : j % 4 < 4 := by omega
    have h3 : (madeCells (Value.agg #[.string ⟨#[]⟩, .int .i64 0, .int .i64 0, .string ⟨#[]⟩]).cells (N * 4)).toList[j]? = some ((#[Value.string ⟨#[]⟩, .int .i64 0, .int .i64 0, .string ⟨#[]⟩] : Array Value)[j % 4]!) := by
      unfold madeCells
      simp [hj, Value.cells]
    rw [h3]
    generalize j % 4 = q at *
    match q, h4 with
    | 0, _ => rfl
    | 1, _ => rfl
    | 2, _ => rfl
    | 3, _ => rfl
  · rw [List.getElem?_eq_none (by unfold madeCells; simp; omega), List.getElem?_eq_none (by rw [rwV_length, List.length_replicate]; omega)]
theorem room_cells {l : List Vr} {n : Nat} (h : l.length = n) : splice (rwV (List.replicate (n + 4) zR)) 0 (rwV l) = rwV (l ++ List.replicate 4 zR) := by
  unfold splice
  rw [List.take_zero, List.nil_append, Nat.zero_add, rwV_length, rwV_drop, h, rwV_append]
  congr 2
  rw [List.drop_replicate]
  congr 1
  omega
def growR (a b : World) : Prop := Below a.heap.size a b
theorem growR_trans {a b c : World} (h : growR a b) (k : growR b c) : growR a c := Below.trans h (Below.mono k (Below.size h))
/-- the slots of the law's third line -/
def keF (R n _b : Nat) (A : Option Addr) (c B : Nat) (_l : List Vr) (t : ByteArray) (k m : Int) (s : ByteArray) : Nat → Value → World → Prop
  | 0, v, _ => v = .slice (some ⟨R, 0, none⟩) (n + 4) (n + 4)
  | 1, v, _ => v = .slice A n c
  | 2, v, _ => v = .int .i64 (n : Int)
  | 3, v, _ => v = .slice (some ⟨R, 0, none⟩) n (n + 4)
  | 4, v, _ => v = .string t
  | 5, v, _ => v = .agg #[.int .i64 k, .int .i64 m, .string s]
  | 6, v, w => ∃ r A' c', v = .slice A' r.length c' ∧ r.length ≤ 1048577 ∧ OwR w B A' r.length c' r
  | 7, v, w => ∃ r A' c', v = .slice A' r.length c' ∧ r.length ≤ 1048577 ∧ OwR w B A' r.length c' r
  | _, _, _ => True
theorem keF_mono {R n b : Nat} {A : Option Addr} {c B : Nat} {l : List Vr} {t : ByteArray} {k m : Int} {s : ByteArray} (j : Nat) (v : Value) (w w' : World) (h : keF R n b A c B l t k m s j v w) (hr : growR w w') : keF R n b A c B l t k m s j v w' := by
  match j, h with
  | 0, h => exact h
  | 1, h => exact h
  | 2, h => exact h
  | 3, h => exact h
  | 4, h => exact h
  | 5, h => exact h
  | 6, h => obtain ⟨r, A', c', h1, h2, h3⟩ := h; exact ⟨r, A', c', h1, h2, h3.below hr⟩
  | 7, h => obtain ⟨r, A', c', h1, h2, h3⟩ := h; exact ⟨r, A', c', h1, h2, h3.below hr⟩
  | j + 8, _ => trivial
theorem withIs_len {l : List Vr} {t : ByteArray} {v : Val} {r : List Vr} (h : WithIs l t v r) : r.length ≤ l.length + 1 := by
  rcases h with ⟨_, rfl⟩ | ⟨_, p, hp, rfl⟩
  · omega
  · unfold putL
    split
    · rw [List.length_set]; omega
    · simp; omega
def kepA (R n c i b o : Nat) (_A : Option Addr) (nm1 : ByteArray) (k1 m1 : Int) (s1 : ByteArray) : Nat → Value
  | 0 => .int .i64 (i : Int)
  | 1 => .slice (some ⟨b, o, none⟩) n c
  | 2 => .int .i64 (n : Int)
  | 3 => .bool true
  | 4 => .bool true
  | 5 => .slice (some ⟨R, 0, none⟩) (n + 4) (n + 4)
  | 6 => .int .i64 (i : Int)
  | 7 => .pointer (some ⟨R, i * 4, none⟩)
  | 8 => .agg #[.string nm1, .int .i64 k1, .int .i64 m1, .string s1]
  | 9 => .slice (some ⟨b, o, none⟩) n c
  | 10 => .int .i64 (i : Int)
  | 11 => .pointer (some ⟨b, o + i * 4, none⟩)
  | 12 => .agg #[.string nm1, .int .i64 k1, .int .i64 m1, .string s1]
  | 13 => .bool false
  | 14 => .bool false
  | 15 => .bool false
  | 16 => .int .i64 (i : Int)
  | 17 => .slice (some ⟨b, o, none⟩) n c
  | 18 => .int .i64 (n : Int)
  | 19 => .bool false
  | 20 => .bool false
  | 21 => undef
  | 22 => undef
  | 23 => undef
  | 24 => undef
  | 25 => undef
  | 26 => undef
  | 27 => .bool false
  | 28 => .bool false
  | _ => undef
def kepB (R n c i _b _o : Nat) (A : Option Addr) (_nm1 : ByteArray) (_k1 _m1 : Int) (_s1 : ByteArray) : Nat → Value
  | 0 => .int .i64 (i : Int)
  | 1 => .slice A n c
  | 2 => .int .i64 (n : Int)
  | 3 => .bool false
  | 4 => .bool false
  | 5 => undef
  | 6 => undef
  | 7 => undef
  | 8 => undef
  | 9 => undef
  | 10 => undef
  | 11 => undef
  | 12 => undef
  | 13 => undef
  | 14 => .bool false
  | 15 => .bool false
  | 16 => .int .i64 (i : Int)
  | 17 => .slice A n c
  | 18 => .int .i64 (n : Int)
  | 19 => .bool true
  | 20 => .bool true
  | 21 => .slice (some ⟨R, 0, none⟩) (n + 4) (n + 4)
  | 22 => .int .i64 (i : Int)
  | 23 => .pointer (some ⟨R, i * 4, none⟩)
  | 24 => .agg #[.string ⟨#[]⟩, .int .i64 0, .int .i64 0, .string ⟨#[]⟩]
  | 25 => .agg #[.string ⟨#[]⟩, .int .i64 0, .int .i64 0, .string ⟨#[]⟩]
  | 26 => .bool false
  | 27 => .bool false
  | 28 => .bool false
  | _ => undef
set_option maxHeartbeats 16000000 in
set_option maxRecDepth 100000 in
theorem keeps_walk (w : World) (A : Option Addr) (n c : Nat) (l : List Vr) (t : ByteArray) (k m : Int) (s : ByteArray) (h : HR w A n c l) (hc0 : A = none → c = 0) (hn : n ≤ 1048576) (hG : Glob w) :
    Calls Tryd.prog 8 #[.slice A n c, .string t, .agg #[.int .i64 k, .int .i64 m, .string s]] w fun e w' => e = .returned (.bool true) ∧ Below w.heap.size w w' := by
  have HH := Lib.hid h
  have HG := Lib.hid hG
  clear h hG
  obtain ⟨i0, hi, hz0, hz1, hz2⟩ := info42'
  obtain ⟨W0, hW0⟩ : ∃ W0, W0 = w.alloc (.cells #[.int .i64 k, .int .i64 m, .string s] 23 (0, 0)) := ⟨_, rfl⟩
  have HB0 : Hid (Below w.heap.size w W0) := Lib.hid (by rw [hW0]; exact (Below.refl _ _).alloc (Nat.le_refl _) _)
  have HX0 : Hid (Bx 23 W0 w.heap.size #[.int .i64 k, .int .i64 m, .string s]) := Lib.hid (by rw [hW0]; exact Bx.new w _ _)
  have HHL := Lib.hid HH.out.1
  have HW0 := Lib.hid hW0
  clear hW0
  go_enter Tryd.func8, Tryd.ntmps8
  go_wp2_with (at_make; rw [← HW0.out]; refine wpList_make_full W0 rfl (.tmp 13) (.tmp 13) 33 rfl W0.heap.size 42 i0 _ 4 Tryd.underlying33 hi hz0 hz1 .i64 .i64 _ _ (n + 4) rfl rfl (by omega) (by omega) (by rw [hz2]; omega) (by unfold maxLen; omega) (Nat.le_refl _) ?_; intro w2 how hgr; rw [made_rw] at how; obtain ⟨cur, hcR, _, _, hcs, _⟩ := own_block (own_un how); have HB2 := Lib.hid ((Below.refl W0.heap.size W0).grown hgr (Nat.le_refl _) (fun k hk => by cases hk)); have hcp := run_copy_var w2 A n c (n + 4) W0.heap.size l (HH.out.below (HB0.out.trans (HB2.out.mono HB0.out.size))) hc0 (by omega) cur hcR hcs; have HOW := Lib.hid how; clear how hgr hcR hcs)
  have HO3 : Hid (OwR (w2.setCells W0.heap.size 0 (rwV l)) W0.heap.size (some ⟨W0.heap.size, 0, none⟩) (n + 4) (n + 4) (l ++ List.replicate 4 zR)) := Lib.hid (by
    have h2 := own_setCells (own_un HOW.out) 0 (rwV l) (by rw [rwV_length, HHL.out]; omega)
    rw [room_cells HHL.out] at h2
    exact own_re h2 (Nat.le_refl _))
  have HB3 : Hid (Below W0.heap.size W0 (w2.setCells W0.heap.size 0 (rwV l))) := Lib.hid (bel_setCells (Nat.le_refl _) _ _ _ HB2.out)
  clear hcp HOW HB2
  generalize w2.setCells W0.heap.size 0 (rwV l) = W3 at *
  have HLT3 := Lib.hid (Nat.lt_of_lt_of_le HX0.out.lt HB3.out.size)
  have C0 := Lib.hid (cell_in HB3.out HX0.out.lt (HX0.out.c (j := 0) rfl))
  have C1 := Lib.hid (cell_in HB3.out HX0.out.lt (HX0.out.c (j := 1) rfl))
  have C2 := Lib.hid (cell_in HB3.out HX0.out.lt (HX0.out.c (j := 2) rfl))
  have HRM := Lib.hid (HO3.out.hr.1.take n (by omega))
  rw [List.take_left' HHL.out] at HRM
  have hn4 : (n : Int) ≤ (n : Int) + 4 := by omega
  have hn5 : (n : Int) ≤ ((n + 4 : Nat) : Int) := by omega
  have hn0 : (0 : Int) ≤ (n : Int) := by omega
  refine wp_region_steps (keF W0.heap.size n w.heap.size A c W3.heap.size l t k m s) growR (by kernel_rfl) (by kernel_rfl) (fun _ => Below.refl _ _) (fun _ _ _ h k => growR_trans h k) keF_mono ?_ ?_
  · refine ⟨?_, ?_, ?_, ?_, ?_, ?_, ?_, ?_, trivial⟩
    · intro a W hR hoff hd
      left
      refine ⟨rfl, ?_⟩
      have e0 : a.tmps.getD 7 undef = .slice (some ⟨W0.heap.size, 0, none⟩) (n + 4) (n + 4) := hoff.slot 7 (no_dst (by kernel_rfl))
      go_simp
      exact ⟨_, rfl, rfl, Below.refl _ _⟩
    · intro a W hR hoff hd
      left
      refine ⟨rfl, ?_⟩
      have e0 : a.tmps.getD 0 undef = .slice A n c := hoff.slot 0 (no_dst (by kernel_rfl))
      go_simp
      exact ⟨_, rfl, rfl, Below.refl _ _⟩
    · intro a W hR hoff hd
      left
      refine ⟨rfl, ?_⟩
      have e0 : a.tmps.getD 19 undef = .slice A n c := hd 1 _ rfl rfl
      go_simp
      exact ⟨_, rfl, rfl, Below.refl _ _⟩
    · intro a W hR hoff hd
      left
      refine ⟨rfl, ?_⟩
      have e0 : a.tmps.getD 18 undef = .slice (some ⟨W0.heap.size, 0, none⟩) (n + 4) (n + 4) := hd 0 _ rfl rfl
      have e1 : a.tmps.getD 20 undef = .int .i64 (n : Int) := hd 2 _ rfl rfl
      go_simp
      exact ⟨_, rfl, rfl, Below.refl _ _⟩
    · intro a W hR hoff hd
      left
      refine ⟨rfl, ?_⟩
      have e0 : a.tmps.getD 1 undef = .string t := hoff.slot 1 (no_dst (by kernel_rfl))
      go_simp
      exact ⟨_, rfl, rfl, Below.refl _ _⟩
    · intro a W hR hoff hd
      left
      refine ⟨rfl, ?_⟩
      have e0 : a.tmps.getD 5 undef = .pointer (some ⟨w.heap.size, 0, none⟩) := hoff.slot 5 (no_dst (by kernel_rfl))
      have hU := und hR
      have c0 := cell_in hU HLT3.out C0.out
      have c1 := cell_in hU HLT3.out C1.out
      have c2 := cell_in hU HLT3.out C2.out
      clear hU
      go_simp
      exact ⟨_, rfl, rfl, Below.refl _ _⟩
    · intro a W hR hoff hd
      left
      refine ⟨rfl, ?_⟩
      have e0 : a.tmps.getD 21 undef = .slice (some ⟨W0.heap.size, 0, none⟩) n (n + 4) := hd 3 _ rfl rfl
      have e1 : a.tmps.getD 22 undef = .string t := hd 4 _ rfl rfl
      have e2 : a.tmps.getD 23 undef = .agg #[.int .i64 k, .int .i64 m, .string s] := hd 5 _ rfl rfl
      go_simp
      refine (with_any W _ n (n + 4) l t k m s (HRM.out.below (und hR)) (fun e => by cases e) hn).mono ?_
      rintro e W2 ⟨r, A8, c8, hr, rfl, ho8, hb8⟩
      exact ⟨_, rfl, ⟨r, A8, c8, rfl, by have := withIs_len hr; have := HHL.out; omega, own_mono ho8 (und hR).size⟩, hb8⟩
    · intro a W hR hoff hd
      left
      refine ⟨rfl, ?_⟩
      obtain ⟨r, A8, c8, e0, hl8, ho8⟩ : ∃ (r : List Vr) (A' : Option Addr) (c' : Nat), a.tmps.getD 24 undef = .slice A' r.length c' ∧ r.length ≤ 1048577 ∧ OwR W W3.heap.size A' r.length c' r := hd 6 _ rfl rfl
      go_simp
      exact ⟨_, rfl, ⟨r, A8, c8, rfl, hl8, ho8⟩, Below.refl _ _⟩
  · intro a W hR hoff hd
    obtain ⟨r, A8, c8, e8, hl8, ho8⟩ : ∃ (r : List Vr) (A' : Option Addr) (c' : Nat), a.tmps.getD 8 undef = .slice A' r.length c' ∧ r.length ≤ 1048577 ∧ OwR W W3.heap.size A' r.length c' r := hd 7 _ rfl
    have HB4 := Lib.hid (und hR)
    have HO8 := Lib.hid ho8
    obtain ⟨ys, hys, ha⟩ := off_form hoff (mask := [false, false, false, false, false, false, false, false, true, false, false, false, false, false, false, false, false, false, true, true, true, true, true, true, true, false, false, false, false, false, false, false, false, false, false, false, false, false, false, false, false, false, false, false, false, false, false, false, false, false, false, false, false, false, false, false, false, false, false, false, false, false, false, false, false, false, false, false, false, false, false]) (by kernel_rfl)
    rw [hys] at e8
    subst ha
    clear hd hR ho8
    simp only [fillFrom, Nat.zero_add, Nat.reduceAdd] at *
    rw [e8]
    clear e8 hys hoff
    rename_i hK
    refine hK _ _ ?_
    clear hK
    go_wp2_with fail
    go_loopg [9] r.length (fun kx v9 wr => ∃ (i : Nat) (q : List Vr), v9 = .int .i64 (i : Int) ∧ i ≤ r.length ∧ r.length - i ≤ kx ∧ Hid (q.length = r.length) ∧ Hid (OwR wr W3.heap.size A8 r.length c8 q) ∧ Hid (Below W3.heap.size W3 wr))
    case atStart => exact ⟨0, r, rfl, Nat.zero_le _, Nat.le_refl _, Lib.hid rfl, HO8, HB4⟩
    case round =>
      clear HO8 HB4
      obtain ⟨i, q, rfl, hi, hkx, HQ, HOQ, HB⟩ := hrel
      by_cases he : i < r.length
      · have hiq : i < q.length := by have := HQ.out; omega
        obtain ⟨g, rfl, hg1, hg2, hg3⟩ := HOQ.out.place (by omega)
        obtain ⟨b', o', hbo, _, p0, _⟩ := HOQ.out.hr.1.elem i hiq
        cases hbo
        rw [Nat.zero_add] at p0
        have f0 := hg3 (i * 4)
        have HN := Lib.hid (OwR.setN HOQ.out hg1 i hiq ⟨#[115, 112, 111, 105, 108, 116]⟩)
        have HL := Lib.hid (show (q.set i ⟨⟨#[115, 112, 111, 105, 108, 116]⟩, q[i].v⟩).length = r.length by rw [List.length_set]; exact HQ.out)
        have HB9 := Lib.hid (HB.out.setCell (p := ⟨g, i * 4, none⟩) hg1 (.string ⟨#[115, 112, 111, 105, 108, 116]⟩))
        have hl8' : r.length ≤ 1048577 := hl8
        clear hg3
        go_wp2_with fail
        go_roundg (r.length - (i + 1))
        case measure => omega
        case rel => exact ⟨i + 1, _, by go_num, by omega, Nat.le_refl _, HL, HN, HB9⟩
      · clear HOQ HQ
        go_wp2_with fail
        go_loopg [10] (n + 4) (fun kx v10 wr => ∃ (i : Nat), v10 = .int .i64 (i : Int) ∧ i ≤ n + 4 ∧ n + 4 - i ≤ kx ∧ Hid (Below W3.heap.size W3 wr))
        case atStart => exact ⟨0, rfl, Nat.zero_le _, Nat.le_refl _, HB⟩
        case round =>
          clear HB hkx hi he
          obtain ⟨i, rfl, hi, hkx, HB⟩ := hrel
          have hLL : (l ++ List.replicate 4 zR).length = n + 4 := by rw [List.length_append, HHL.out]; simp
          have HBw := Lib.hid (HB0.out.trans ((HB3.out.trans (HB.out.mono HB3.out.size)).mono HB0.out.size))
          have hR3 : W0.heap.size < W3.heap.size := by
            obtain ⟨g9, e9, _, h9, _⟩ := HO3.out.place (by omega)
            cases e9
            exact h9
          have HL1 := Lib.hid (Nat.lt_of_lt_of_le hR3 HB.out.size)
          by_cases he : i < n + 4
          · obtain ⟨b9, o9, e9, _, t0, t1, t2, t3⟩ := HO3.out.hr.1.elem i (by omega)
            cases e9
            simp only [Nat.zero_add] at t0 t1 t2 t3
            by_cases hin : i < n
            · have hil : i < l.length := by have := HHL.out; omega
              simp only [List.getElem_append_left hil] at t0 t1 t2 t3
              obtain ⟨b, o, rfl, hlt, u0, u1, u2, u3⟩ := HH.out.elem i hil
              have D0 := Lib.hid (cell_in HB.out hR3 t0)
              have D1 := Lib.hid (cell_in HB.out hR3 t1)
              have D2 := Lib.hid (cell_in HB.out hR3 t2)
              have D3 := Lib.hid (cell_in HB.out hR3 t3)
              have E0 := Lib.hid (cell_in HBw.out hlt u0)
              have E1 := Lib.hid (cell_in HBw.out hlt u1)
              have E2 := Lib.hid (cell_in HBw.out hlt u2)
              have E3 := Lib.hid (cell_in HBw.out hlt u3)
              have HL2 := Lib.hid (Nat.lt_of_lt_of_le hlt HBw.out.size)
              clear t0 t1 t2 t3 u0 u1 u2 u3
              generalize l[i] = x at *
              obtain ⟨nm1, ⟨k1, m1, s1⟩⟩ := x
              simp only at D0 D1 D2 D3 E0 E1 E2 E3
              have z1 : (0 : Int) ≤ (i : Int) := by omega
              have z2 : (i : Int) < (n : Int) := by omega
              have z3 : (i : Int) < ((n + 4 : Nat) : Int) := by omega
              have z4 : (i : Int) < (n : Int) + 4 := by omega
              have z5 : decide (n ≤ i) = false := decide_eq_false (by omega)
              generalize W0.heap.size = R at *
              go_wp2_with fail
              refine wp_region_steps (fun j v _ => v = kepA R n c i b o none nm1 k1 m1 s1 j) (belR wr.heap.size) (by kernel_rfl) (by kernel_rfl) (fun _ => Below.refl _ _) (fun _ _ _ h k => belR_trans h k) (fun _ _ _ _ h _ => h) ?_ ?_
              · refine ⟨?_, ?_, ?_, ?_, ?_, ?_, ?_, ?_, ?_, ?_, ?_, ?_, ?_, ?_, ?_, ?_, ?_, ?_, ?_, ?_, ?_, ?_, ?_, ?_, ?_, ?_, ?_, ?_, ?_, trivial⟩
                · intro a W hR hoff hd
                  left
                  refine ⟨rfl, ?_⟩
                  have e0 : a.tmps.getD 10 undef = .int .i64 (i : Int) := hoff.slot 10 (no_dst (by kernel_rfl))
                  go_simp
                  exact ⟨_, rfl, rfl, Below.refl _ _⟩
                · intro a W hR hoff hd
                  left
                  refine ⟨rfl, ?_⟩
                  have e0 : a.tmps.getD 0 undef = .slice (some ⟨b, o, none⟩) n c := hoff.slot 0 (no_dst (by kernel_rfl))
                  go_simp
                  exact ⟨_, rfl, rfl, Below.refl _ _⟩
                · intro a W hR hoff hd
                  left
                  refine ⟨rfl, ?_⟩
                  have e0 : a.tmps.getD 42 undef = .slice (some ⟨b, o, none⟩) n c := hd 1 _ rfl rfl
                  go_simp
                  exact ⟨_, rfl, rfl, Below.refl _ _⟩
                · intro a W hR hoff hd
                  left
                  refine ⟨rfl, ?_⟩
                  have e0 : a.tmps.getD 41 undef = .int .i64 (i : Int) := hd 0 _ rfl rfl
                  have e1 : a.tmps.getD 43 undef = .int .i64 (n : Int) := hd 2 _ rfl rfl
                  go_simp
                  first | exact ⟨_, rfl, rfl, Below.refl _ _⟩ | exact ⟨_, rfl, congrArg Value.bool (by assumption), Below.refl _ _⟩
                · intro a W hR hoff hd
                  left
                  refine ⟨rfl, ?_⟩
                  have e0 : a.tmps.getD 44 undef = .bool true := hd 3 _ rfl rfl
                  go_simp
                  exact ⟨_, rfl, rfl, Below.refl _ _⟩
                · intro a W hR hoff hd
                  left
                  have eg : a.tmps.getD 45 undef = .bool true := hd 4 _ rfl rfl
                  refine ⟨wanted_of (ops := _) (j := 4) (b := true) rfl rfl rfl eg, ?_⟩
                  clear eg
                  have e0 : a.tmps.getD 7 undef = .slice (some ⟨R, 0, none⟩) (n + 4) (n + 4) := hoff.slot 7 (no_dst (by kernel_rfl))
                  go_simp
                  exact ⟨_, rfl, rfl, Below.refl _ _⟩
                · intro a W hR hoff hd
                  left
                  have eg : a.tmps.getD 45 undef = .bool true := hd 4 _ rfl rfl
                  refine ⟨wanted_of (ops := _) (j := 4) (b := true) rfl rfl rfl eg, ?_⟩
                  clear eg
                  have e0 : a.tmps.getD 10 undef = .int .i64 (i : Int) := hoff.slot 10 (no_dst (by kernel_rfl))
                  go_simp
                  exact ⟨_, rfl, rfl, Below.refl _ _⟩
                · intro a W hR hoff hd
                  left
                  have eg : a.tmps.getD 45 undef = .bool true := hd 4 _ rfl rfl
                  refine ⟨wanted_of (ops := _) (j := 4) (b := true) rfl rfl rfl eg, ?_⟩
                  clear eg
                  have e0 : a.tmps.getD 46 undef = .slice (some ⟨R, 0, none⟩) (n + 4) (n + 4) := hd 5 _ rfl rfl
                  have e1 : a.tmps.getD 47 undef = .int .i64 (i : Int) := hd 6 _ rfl rfl
                  go_simp
                  exact ⟨_, rfl, rfl, Below.refl _ _⟩
                · intro a W hR hoff hd
                  left
                  have eg : a.tmps.getD 45 undef = .bool true := hd 4 _ rfl rfl
                  refine ⟨wanted_of (ops := _) (j := 4) (b := true) rfl rfl rfl eg, ?_⟩
                  clear eg
                  have e0 : a.tmps.getD 48 undef = .pointer (some ⟨R, i * 4, none⟩) := hd 7 _ rfl rfl
                  have c0 := cell_in (und hR) HL1.out D0.out
                  have c1 := cell_in (und hR) HL1.out D1.out
                  have c2 := cell_in (und hR) HL1.out D2.out
                  have c3 := cell_in (und hR) HL1.out D3.out
                  go_simp
                  exact ⟨_, rfl, rfl, Below.refl _ _⟩
                · intro a W hR hoff hd
                  left
                  have eg : a.tmps.getD 45 undef = .bool true := hd 4 _ rfl rfl
                  refine ⟨wanted_of (ops := _) (j := 4) (b := true) rfl rfl rfl eg, ?_⟩
                  clear eg
                  have e0 : a.tmps.getD 0 undef = .slice (some ⟨b, o, none⟩) n c := hoff.slot 0 (no_dst (by kernel_rfl))
                  go_simp
                  exact ⟨_, rfl, rfl, Below.refl _ _⟩
                · intro a W hR hoff hd
                  left
                  have eg : a.tmps.getD 45 undef = .bool true := hd 4 _ rfl rfl
                  refine ⟨wanted_of (ops := _) (j := 4) (b := true) rfl rfl rfl eg, ?_⟩
                  clear eg
                  have e0 : a.tmps.getD 10 undef = .int .i64 (i : Int) := hoff.slot 10 (no_dst (by kernel_rfl))
                  go_simp
                  exact ⟨_, rfl, rfl, Below.refl _ _⟩
                · intro a W hR hoff hd
                  left
                  have eg : a.tmps.getD 45 undef = .bool true := hd 4 _ rfl rfl
                  refine ⟨wanted_of (ops := _) (j := 4) (b := true) rfl rfl rfl eg, ?_⟩
                  clear eg
                  have e0 : a.tmps.getD 50 undef = .slice (some ⟨b, o, none⟩) n c := hd 9 _ rfl rfl
                  have e1 : a.tmps.getD 51 undef = .int .i64 (i : Int) := hd 10 _ rfl rfl
                  go_simp
                  exact ⟨_, rfl, rfl, Below.refl _ _⟩
                · intro a W hR hoff hd
                  left
                  have eg : a.tmps.getD 45 undef = .bool true := hd 4 _ rfl rfl
                  refine ⟨wanted_of (ops := _) (j := 4) (b := true) rfl rfl rfl eg, ?_⟩
                  clear eg
                  have e0 : a.tmps.getD 52 undef = .pointer (some ⟨b, o + i * 4, none⟩) := hd 11 _ rfl rfl
                  have c0 := cell_in (und hR) HL2.out E0.out
                  have c1 := cell_in (und hR) HL2.out E1.out
                  have c2 := cell_in (und hR) HL2.out E2.out
                  have c3 := cell_in (und hR) HL2.out E3.out
                  go_simp
                  exact ⟨_, rfl, rfl, Below.refl _ _⟩
                · intro a W hR hoff hd
                  left
                  have eg : a.tmps.getD 45 undef = .bool true := hd 4 _ rfl rfl
                  refine ⟨wanted_of (ops := _) (j := 4) (b := true) rfl rfl rfl eg, ?_⟩
                  clear eg
                  have e0 : a.tmps.getD 49 undef = .agg #[.string nm1, .int .i64 k1, .int .i64 m1, .string s1] := hd 8 _ rfl rfl
                  have e1 : a.tmps.getD 53 undef = .agg #[.string nm1, .int .i64 k1, .int .i64 m1, .string s1] := hd 12 _ rfl rfl
                  go_simp
                  first | exact ⟨_, rfl, rfl, Below.refl _ _⟩ | exact ⟨_, rfl, congrArg Value.bool (by assumption), Below.refl _ _⟩
                · intro a W hR hoff hd
                  left
                  refine ⟨rfl, ?_⟩
                  have e0 : a.tmps.getD 45 undef = .bool true := hd 4 _ rfl rfl
                  have e1 : a.tmps.getD 54 undef = .bool false := hd 13 _ rfl rfl
                  go_simp
                  exact ⟨_, rfl, rfl, Below.refl _ _⟩
                · intro a W hR hoff hd
                  left
                  refine ⟨rfl, ?_⟩
                  have e0 : a.tmps.getD 55 undef = .bool false := hd 14 _ rfl rfl
                  go_simp
                  exact ⟨_, rfl, rfl, Below.refl _ _⟩
                · intro a W hR hoff hd
                  left
                  have eg : a.tmps.getD 56 undef = .bool false := hd 15 _ rfl rfl
                  refine ⟨wanted_of (ops := _) (j := 15) (b := false) rfl rfl rfl eg, ?_⟩
                  clear eg
                  have e0 : a.tmps.getD 10 undef = .int .i64 (i : Int) := hoff.slot 10 (no_dst (by kernel_rfl))
                  go_simp
                  exact ⟨_, rfl, rfl, Below.refl _ _⟩
                · intro a W hR hoff hd
                  left
                  have eg : a.tmps.getD 56 undef = .bool false := hd 15 _ rfl rfl
                  refine ⟨wanted_of (ops := _) (j := 15) (b := false) rfl rfl rfl eg, ?_⟩
                  clear eg
                  have e0 : a.tmps.getD 0 undef = .slice (some ⟨b, o, none⟩) n c := hoff.slot 0 (no_dst (by kernel_rfl))
                  go_simp
                  exact ⟨_, rfl, rfl, Below.refl _ _⟩
                · intro a W hR hoff hd
                  left
                  have eg : a.tmps.getD 56 undef = .bool false := hd 15 _ rfl rfl
                  refine ⟨wanted_of (ops := _) (j := 15) (b := false) rfl rfl rfl eg, ?_⟩
                  clear eg
                  have e0 : a.tmps.getD 58 undef = .slice (some ⟨b, o, none⟩) n c := hd 17 _ rfl rfl
                  go_simp
                  exact ⟨_, rfl, rfl, Below.refl _ _⟩
                · intro a W hR hoff hd
                  left
                  have eg : a.tmps.getD 56 undef = .bool false := hd 15 _ rfl rfl
                  refine ⟨wanted_of (ops := _) (j := 15) (b := false) rfl rfl rfl eg, ?_⟩
                  clear eg
                  have e0 : a.tmps.getD 57 undef = .int .i64 (i : Int) := hd 16 _ rfl rfl
                  have e1 : a.tmps.getD 59 undef = .int .i64 (n : Int) := hd 18 _ rfl rfl
                  go_simp
                  first | exact ⟨_, rfl, rfl, Below.refl _ _⟩ | exact ⟨_, rfl, congrArg Value.bool (by assumption), Below.refl _ _⟩
                · intro a W hR hoff hd
                  left
                  have eg : a.tmps.getD 56 undef = .bool false := hd 15 _ rfl rfl
                  refine ⟨wanted_of (ops := _) (j := 15) (b := false) rfl rfl rfl eg, ?_⟩
                  clear eg
                  have e0 : a.tmps.getD 60 undef = .bool false := hd 19 _ rfl rfl
                  go_simp
                  exact ⟨_, rfl, rfl, Below.refl _ _⟩
                · intro a W hR hoff hd
                  right
                  have eg : a.tmps.getD 61 undef = .bool false := hd 20 _ rfl rfl
                  exact ⟨unwanted_of (ops := _) (j := 20) (b := true) rfl rfl rfl (b2 := false) (by decide) eg, rfl⟩
                · intro a W hR hoff hd
                  right
                  have eg : a.tmps.getD 61 undef = .bool false := hd 20 _ rfl rfl
                  exact ⟨unwanted_of (ops := _) (j := 20) (b := true) rfl rfl rfl (b2 := false) (by decide) eg, rfl⟩
                · intro a W hR hoff hd
                  right
                  have eg : a.tmps.getD 61 undef = .bool false := hd 20 _ rfl rfl
                  exact ⟨unwanted_of (ops := _) (j := 20) (b := true) rfl rfl rfl (b2 := false) (by decide) eg, rfl⟩
                · intro a W hR hoff hd
                  right
                  have eg : a.tmps.getD 61 undef = .bool false := hd 20 _ rfl rfl
                  exact ⟨unwanted_of (ops := _) (j := 20) (b := true) rfl rfl rfl (b2 := false) (by decide) eg, rfl⟩
                · intro a W hR hoff hd
                  right
                  have eg : a.tmps.getD 61 undef = .bool false := hd 20 _ rfl rfl
                  exact ⟨unwanted_of (ops := _) (j := 20) (b := true) rfl rfl rfl (b2 := false) (by decide) eg, rfl⟩
                · intro a W hR hoff hd
                  right
                  have eg : a.tmps.getD 61 undef = .bool false := hd 20 _ rfl rfl
                  exact ⟨unwanted_of (ops := _) (j := 20) (b := true) rfl rfl rfl (b2 := false) (by decide) eg, rfl⟩
                · intro a W hR hoff hd
                  left
                  have eg : a.tmps.getD 56 undef = .bool false := hd 15 _ rfl rfl
                  refine ⟨wanted_of (ops := _) (j := 15) (b := false) rfl rfl rfl eg, ?_⟩
                  clear eg
                  have e0 : a.tmps.getD 61 undef = .bool false := hd 20 _ rfl rfl
                  have e1 : a.tmps.getD 67 undef = undef := hd 26 _ rfl rfl
                  go_simp
                  exact ⟨_, rfl, rfl, Below.refl _ _⟩
                · intro a W hR hoff hd
                  left
                  refine ⟨rfl, ?_⟩
                  have e0 : a.tmps.getD 56 undef = .bool false := hd 15 _ rfl rfl
                  have e1 : a.tmps.getD 68 undef = .bool false := hd 27 _ rfl rfl
                  go_simp
                  exact ⟨_, rfl, rfl, Below.refl _ _⟩
              · intro a W hR hoff hd
                have e69 : a.tmps.getD 69 undef = .bool false := hd 28 _ rfl
                have HBW := Lib.hid (HB.out.trans ((und hR).mono HB.out.size))
                obtain ⟨ys, hys, ha⟩ := off_form hoff (mask := [false, false, false, false, false, false, false, false, false, false, false, false, false, false, false, false, false, false, false, false, false, false, false, false, false, false, false, false, false, false, false, false, false, false, false, false, false, false, false, false, false, true, true, true, true, true, true, true, true, true, true, true, true, true, true, true, true, true, true, true, true, true, true, true, true, true, true, true, true, true, false]) (by kernel_rfl)
                rw [hys] at e69
                subst ha
                clear hd hR
                simp only [fillFrom, Nat.zero_add, Nat.reduceAdd] at *
                rw [e69]
                clear e69 hys hoff
                rename_i hK
                refine hK _ _ ?_
                clear hK
                go_wp2_with fail
                go_roundg (n + 4 - (i + 1))
                case measure => omega
                case rel => exact ⟨i + 1, by go_num, by omega, Nat.le_refl _, HBW⟩
            · simp only [List.getElem_append_right (show l.length ≤ i by have := HHL.out; omega), List.getElem_replicate] at t0 t1 t2 t3
              have D0 := Lib.hid (cell_in HB.out hR3 t0)
              have D1 := Lib.hid (cell_in HB.out hR3 t1)
              have D2 := Lib.hid (cell_in HB.out hR3 t2)
              have D3 := Lib.hid (cell_in HB.out hR3 t3)
              clear t0 t1 t2 t3
              simp only [zR] at D0 D1 D2 D3
              have z1 : (0 : Int) ≤ (i : Int) := by omega
              have z2 : decide ((i : Int) < (n : Int)) = false := decide_eq_false (by omega)
              have z3 : (i : Int) < ((n + 4 : Nat) : Int) := by omega
              have z4 : (i : Int) < (n : Int) + 4 := by omega
              have z5 : decide (n ≤ i) = true := decide_eq_true (by omega)
              generalize W0.heap.size = R at *
              go_wp2_with fail
              refine wp_region_steps (fun j v _ => v = kepB R n c i 0 0 A ⟨#[]⟩ 0 0 ⟨#[]⟩ j) (belR wr.heap.size) (by kernel_rfl) (by kernel_rfl) (fun _ => Below.refl _ _) (fun _ _ _ h k => belR_trans h k) (fun _ _ _ _ h _ => h) ?_ ?_
              · refine ⟨?_, ?_, ?_, ?_, ?_, ?_, ?_, ?_, ?_, ?_, ?_, ?_, ?_, ?_, ?_, ?_, ?_, ?_, ?_, ?_, ?_, ?_, ?_, ?_, ?_, ?_, ?_, ?_, ?_, trivial⟩
                · intro a W hR hoff hd
                  left
                  refine ⟨rfl, ?_⟩
                  have e0 : a.tmps.getD 10 undef = .int .i64 (i : Int) := hoff.slot 10 (no_dst (by kernel_rfl))
                  go_simp
                  exact ⟨_, rfl, rfl, Below.refl _ _⟩
                · intro a W hR hoff hd
                  left
                  refine ⟨rfl, ?_⟩
                  have e0 : a.tmps.getD 0 undef = .slice A n c := hoff.slot 0 (no_dst (by kernel_rfl))
                  go_simp
                  exact ⟨_, rfl, rfl, Below.refl _ _⟩
                · intro a W hR hoff hd
                  left
                  refine ⟨rfl, ?_⟩
                  have e0 : a.tmps.getD 42 undef = .slice A n c := hd 1 _ rfl rfl
                  go_simp
                  exact ⟨_, rfl, rfl, Below.refl _ _⟩
                · intro a W hR hoff hd
                  left
                  refine ⟨rfl, ?_⟩
                  have e0 : a.tmps.getD 41 undef = .int .i64 (i : Int) := hd 0 _ rfl rfl
                  have e1 : a.tmps.getD 43 undef = .int .i64 (n : Int) := hd 2 _ rfl rfl
                  go_simp
                  first | exact ⟨_, rfl, rfl, Below.refl _ _⟩ | exact ⟨_, rfl, congrArg Value.bool (by assumption), Below.refl _ _⟩
                · intro a W hR hoff hd
                  left
                  refine ⟨rfl, ?_⟩
                  have e0 : a.tmps.getD 44 undef = .bool false := hd 3 _ rfl rfl
                  go_simp
                  exact ⟨_, rfl, rfl, Below.refl _ _⟩
                · intro a W hR hoff hd
                  right
                  have eg : a.tmps.getD 45 undef = .bool false := hd 4 _ rfl rfl
                  exact ⟨unwanted_of (ops := _) (j := 4) (b := true) rfl rfl rfl (b2 := false) (by decide) eg, rfl⟩
                · intro a W hR hoff hd
                  right
                  have eg : a.tmps.getD 45 undef = .bool false := hd 4 _ rfl rfl
                  exact ⟨unwanted_of (ops := _) (j := 4) (b := true) rfl rfl rfl (b2 := false) (by decide) eg, rfl⟩
                · intro a W hR hoff hd
                  right
                  have eg : a.tmps.getD 45 undef = .bool false := hd 4 _ rfl rfl
                  exact ⟨unwanted_of (ops := _) (j := 4) (b := true) rfl rfl rfl (b2 := false) (by decide) eg, rfl⟩
                · intro a W hR hoff hd
                  right
                  have eg : a.tmps.getD 45 undef = .bool false := hd 4 _ rfl rfl
                  exact ⟨unwanted_of (ops := _) (j := 4) (b := true) rfl rfl rfl (b2 := false) (by decide) eg, rfl⟩
                · intro a W hR hoff hd
                  right
                  have eg : a.tmps.getD 45 undef = .bool false := hd 4 _ rfl rfl
                  exact ⟨unwanted_of (ops := _) (j := 4) (b := true) rfl rfl rfl (b2 := false) (by decide) eg, rfl⟩
                · intro a W hR hoff hd
                  right
                  have eg : a.tmps.getD 45 undef = .bool false := hd 4 _ rfl rfl
                  exact ⟨unwanted_of (ops := _) (j := 4) (b := true) rfl rfl rfl (b2 := false) (by decide) eg, rfl⟩
                · intro a W hR hoff hd
                  right
                  have eg : a.tmps.getD 45 undef = .bool false := hd 4 _ rfl rfl
                  exact ⟨unwanted_of (ops := _) (j := 4) (b := true) rfl rfl rfl (b2 := false) (by decide) eg, rfl⟩
                · intro a W hR hoff hd
                  right
                  have eg : a.tmps.getD 45 undef = .bool false := hd 4 _ rfl rfl
                  exact ⟨unwanted_of (ops := _) (j := 4) (b := true) rfl rfl rfl (b2 := false) (by decide) eg, rfl⟩
                · intro a W hR hoff hd
                  right
                  have eg : a.tmps.getD 45 undef = .bool false := hd 4 _ rfl rfl
                  exact ⟨unwanted_of (ops := _) (j := 4) (b := true) rfl rfl rfl (b2 := false) (by decide) eg, rfl⟩
                · intro a W hR hoff hd
                  left
                  refine ⟨rfl, ?_⟩
                  have e0 : a.tmps.getD 45 undef = .bool false := hd 4 _ rfl rfl
                  have e1 : a.tmps.getD 54 undef = undef := hd 13 _ rfl rfl
                  go_simp
                  exact ⟨_, rfl, rfl, Below.refl _ _⟩
                · intro a W hR hoff hd
                  left
                  refine ⟨rfl, ?_⟩
                  have e0 : a.tmps.getD 55 undef = .bool false := hd 14 _ rfl rfl
                  go_simp
                  exact ⟨_, rfl, rfl, Below.refl _ _⟩
                · intro a W hR hoff hd
                  left
                  have eg : a.tmps.getD 56 undef = .bool false := hd 15 _ rfl rfl
                  refine ⟨wanted_of (ops := _) (j := 15) (b := false) rfl rfl rfl eg, ?_⟩
                  clear eg
                  have e0 : a.tmps.getD 10 undef = .int .i64 (i : Int) := hoff.slot 10 (no_dst (by kernel_rfl))
                  go_simp
                  exact ⟨_, rfl, rfl, Below.refl _ _⟩
                · intro a W hR hoff hd
                  left
                  have eg : a.tmps.getD 56 undef = .bool false := hd 15 _ rfl rfl
                  refine ⟨wanted_of (ops := _) (j := 15) (b := false) rfl rfl rfl eg, ?_⟩
                  clear eg
                  have e0 : a.tmps.getD 0 undef = .slice A n c := hoff.slot 0 (no_dst (by kernel_rfl))
                  go_simp
                  exact ⟨_, rfl, rfl, Below.refl _ _⟩
                · intro a W hR hoff hd
                  left
                  have eg : a.tmps.getD 56 undef = .bool false := hd 15 _ rfl rfl
                  refine ⟨wanted_of (ops := _) (j := 15) (b := false) rfl rfl rfl eg, ?_⟩
                  clear eg
                  have e0 : a.tmps.getD 58 undef = .slice A n c := hd 17 _ rfl rfl
                  go_simp
                  exact ⟨_, rfl, rfl, Below.refl _ _⟩
                · intro a W hR hoff hd
                  left
                  have eg : a.tmps.getD 56 undef = .bool false := hd 15 _ rfl rfl
                  refine ⟨wanted_of (ops := _) (j := 15) (b := false) rfl rfl rfl eg, ?_⟩
                  clear eg
                  have e0 : a.tmps.getD 57 undef = .int .i64 (i : Int) := hd 16 _ rfl rfl
                  have e1 : a.tmps.getD 59 undef = .int .i64 (n : Int) := hd 18 _ rfl rfl
                  go_simp
                  first | exact ⟨_, rfl, rfl, Below.refl _ _⟩ | exact ⟨_, rfl, congrArg Value.bool (by assumption), Below.refl _ _⟩
                · intro a W hR hoff hd
                  left
                  have eg : a.tmps.getD 56 undef = .bool false := hd 15 _ rfl rfl
                  refine ⟨wanted_of (ops := _) (j := 15) (b := false) rfl rfl rfl eg, ?_⟩
                  clear eg
                  have e0 : a.tmps.getD 60 undef = .bool true := hd 19 _ rfl rfl
                  go_simp
                  exact ⟨_, rfl, rfl, Below.refl _ _⟩
                · intro a W hR hoff hd
                  left
                  have eg : a.tmps.getD 61 undef = .bool true := hd 20 _ rfl rfl
                  refine ⟨wanted_of (ops := _) (j := 20) (b := true) rfl rfl rfl eg, ?_⟩
                  clear eg
                  have e0 : a.tmps.getD 7 undef = .slice (some ⟨R, 0, none⟩) (n + 4) (n + 4) := hoff.slot 7 (no_dst (by kernel_rfl))
                  go_simp
                  exact ⟨_, rfl, rfl, Below.refl _ _⟩
                · intro a W hR hoff hd
                  left
                  have eg : a.tmps.getD 61 undef = .bool true := hd 20 _ rfl rfl
                  refine ⟨wanted_of (ops := _) (j := 20) (b := true) rfl rfl rfl eg, ?_⟩
                  clear eg
                  have e0 : a.tmps.getD 10 undef = .int .i64 (i : Int) := hoff.slot 10 (no_dst (by kernel_rfl))
                  go_simp
                  exact ⟨_, rfl, rfl, Below.refl _ _⟩
                · intro a W hR hoff hd
                  left
                  have eg : a.tmps.getD 61 undef = .bool true := hd 20 _ rfl rfl
                  refine ⟨wanted_of (ops := _) (j := 20) (b := true) rfl rfl rfl eg, ?_⟩
                  clear eg
                  have e0 : a.tmps.getD 62 undef = .slice (some ⟨R, 0, none⟩) (n + 4) (n + 4) := hd 21 _ rfl rfl
                  have e1 : a.tmps.getD 63 undef = .int .i64 (i : Int) := hd 22 _ rfl rfl
                  go_simp
                  exact ⟨_, rfl, rfl, Below.refl _ _⟩
                · intro a W hR hoff hd
                  left
                  have eg : a.tmps.getD 61 undef = .bool true := hd 20 _ rfl rfl
                  refine ⟨wanted_of (ops := _) (j := 20) (b := true) rfl rfl rfl eg, ?_⟩
                  clear eg
                  have e0 : a.tmps.getD 64 undef = .pointer (some ⟨R, i * 4, none⟩) := hd 23 _ rfl rfl
                  have c0 := cell_in (und hR) HL1.out D0.out
                  have c1 := cell_in (und hR) HL1.out D1.out
                  have c2 := cell_in (und hR) HL1.out D2.out
                  have c3 := cell_in (und hR) HL1.out D3.out
                  go_simp
                  exact ⟨_, rfl, rfl, Below.refl _ _⟩
                · intro a W hR hoff hd
                  left
                  have eg : a.tmps.getD 61 undef = .bool true := hd 20 _ rfl rfl
                  refine ⟨wanted_of (ops := _) (j := 20) (b := true) rfl rfl rfl eg, ?_⟩
                  clear eg
                  go_simp
                  exact ⟨_, rfl, rfl, Below.refl _ _⟩
                · intro a W hR hoff hd
                  left
                  have eg : a.tmps.getD 61 undef = .bool true := hd 20 _ rfl rfl
                  refine ⟨wanted_of (ops := _) (j := 20) (b := true) rfl rfl rfl eg, ?_⟩
                  clear eg
                  have e0 : a.tmps.getD 65 undef = .agg #[.string ⟨#[]⟩, .int .i64 0, .int .i64 0, .string ⟨#[]⟩] := hd 24 _ rfl rfl
                  have e1 : a.tmps.getD 66 undef = .agg #[.string ⟨#[]⟩, .int .i64 0, .int .i64 0, .string ⟨#[]⟩] := hd 25 _ rfl rfl
                  go_simp
                  first | exact ⟨_, rfl, rfl, Below.refl _ _⟩ | exact ⟨_, rfl, congrArg Value.bool (by assumption), Below.refl _ _⟩
                · intro a W hR hoff hd
                  left
                  have eg : a.tmps.getD 56 undef = .bool false := hd 15 _ rfl rfl
                  refine ⟨wanted_of (ops := _) (j := 15) (b := false) rfl rfl rfl eg, ?_⟩
                  clear eg
                  have e0 : a.tmps.getD 61 undef = .bool true := hd 20 _ rfl rfl
                  have e1 : a.tmps.getD 67 undef = .bool false := hd 26 _ rfl rfl
                  go_simp
                  exact ⟨_, rfl, rfl, Below.refl _ _⟩
                · intro a W hR hoff hd
                  left
                  refine ⟨rfl, ?_⟩
                  have e0 : a.tmps.getD 56 undef = .bool false := hd 15 _ rfl rfl
                  have e1 : a.tmps.getD 68 undef = .bool false := hd 27 _ rfl rfl
                  go_simp
                  exact ⟨_, rfl, rfl, Below.refl _ _⟩
              · intro a W hR hoff hd
                have e69 : a.tmps.getD 69 undef = .bool false := hd 28 _ rfl
                have HBW := Lib.hid (HB.out.trans ((und hR).mono HB.out.size))
                obtain ⟨ys, hys, ha⟩ := off_form hoff (mask := [false, false, false, false, false, false, false, false, false, false, false, false, false, false, false, false, false, false, false, false, false, false, false, false, false, false, false, false, false, false, false, false, false, false, false, false, false, false, false, false, false, true, true, true, true, true, true, true, true, true, true, true, true, true, true, true, true, true, true, true, true, true, true, true, true, true, true, true, true, true, false]) (by kernel_rfl)
                rw [hys] at e69
                subst ha
                clear hd hR
                simp only [fillFrom, Nat.zero_add, Nat.reduceAdd] at *
                rw [e69]
                clear e69 hys hoff
                rename_i hK
                refine hK _ _ ?_
                clear hK
                go_wp2_with fail
                go_roundg (n + 4 - (i + 1))
                case measure => omega
                case rel => exact ⟨i + 1, by go_num, by omega, Nat.le_refl _, HBW⟩
          · go_wp2_with (go_at_call 9; refine (awake_any _ (HG.out.below HBw.out HG.out.size)).mono ?_; rintro e w9 ⟨rfl, hb9⟩)
            go_ret
            exact ⟨rfl, HBw.out.trans (hb9.mono HBw.out.size)⟩
end Go.Proofs.YtnmailhlncchmaaDoor
