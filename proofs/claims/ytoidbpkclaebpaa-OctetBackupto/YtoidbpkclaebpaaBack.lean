/-
  What is proved: the walk of the law OctetBack: where the fields and the bytes behind them are not too long it returns true and turns nothing that was there.
-/
import Derived.Test.YtoidbpkclaebpaaShort
import Derived.Test.YtoidbpkclaebpaaReads
namespace Go.Proofs.Ytoidbpkclaebpaa
open Go.RowKit

/-- a field: its kind, its number, its text, its truth -/
abbrev Fld := Int × Int × ByteArray × Bool
def encF (f : Fld) : List UInt8 :=
  if f.1 = 1 then dig f.2.1 else if f.1 = 2 then dig f.2.2.1.size ++ f.2.2.1.data.toList else [if f.2.2.2 then 1 else 0]
def encs (fs : List Fld) : List UInt8 := (fs.map encF).flatten
def sizes (fs : List Fld) : Nat := (fs.map (·.2.2.1.size)).sum
theorem str_len (s : ByteArray) : s.data.toList.length = s.size := by rw [Array.length_toList]; rfl
theorem encF_length (f : Fld) : (encF f).length ≤ 8 + f.2.2.1.size := by
  unfold encF
  split
  · rw [dig_length]; omega
  · split
    · rw [List.length_append, dig_length, str_len]; omega
    · simp; omega
theorem encs_length (fs : List Fld) : (encs fs).length ≤ 8 * fs.length + sizes fs := by
  induction fs with
  | nil => simp [encs]
  | cons f fs ih =>
    have h := encF_length f
    simp only [encs, List.map_cons, List.flatten_cons, List.length_append, List.length_cons, sizes, List.sum_cons] at *
    omega
theorem encs_snoc (fs : List Fld) (k : Nat) (h : k < fs.length) : encs (fs.take (k + 1)) = encs (fs.take k) ++ encF fs[k] := by
  unfold encs; rw [List.take_succ_eq_append_getElem h, List.map_append, List.flatten_append]; simp
theorem encs_cons (fs : List Fld) (k : Nat) (h : k < fs.length) : encs (fs.drop k) = encF fs[k] ++ encs (fs.drop (k + 1)) := by
  unfold encs; rw [List.drop_eq_getElem_cons h, List.map_cons, List.flatten_cons]
theorem sizes_take (fs : List Fld) (k : Nat) : sizes (fs.take k) ≤ sizes fs := by
  have h : sizes fs = sizes (fs.take k) + sizes (fs.drop k) := by
    conv => lhs; rw [← List.take_append_drop k fs]
    simp only [sizes, List.map_append, List.sum_append]
  omega
theorem sizes_mem (fs : List Fld) (k : Nat) (h : k < fs.length) : fs[k].2.2.1.size ≤ sizes fs := by
  have h1 : sizes (fs.take (k + 1)) = sizes (fs.take k) + fs[k].2.2.1.size := by
    unfold sizes; rw [List.take_succ_eq_append_getElem h, List.map_append, List.sum_append]; simp
  have := sizes_take fs (k + 1)
  omega
theorem int_dig (x : Int) (r : List UInt8) (h1 : -9223372036854775808 ≤ x) (h2 : x ≤ 9223372036854775807) : stInt (some (dig x ++ r)) = (x, some r) := by
  have := long_int x r (8 + r.length) (by omega) h1 h2
  rwa [List.take_of_length_le (by rw [List.length_append, dig_length]; omega), List.take_of_length_le (by omega)] at this
theorem text_dig (s r : List UInt8) (hs : s.length ≤ 140737488351232) : stText (some (dig s.length ++ s ++ r)) = (s, some r) := by
  have hi := int_dig s.length (s ++ r) (by omega) (by omega)
  rw [← List.append_assoc] at hi
  have := ((stText_ways (some (dig s.length ++ s ++ r))).2 _ _ hi).2 (by omega) (by simp; omega)
  rw [this, Int.toNat_natCast, List.take_left, List.drop_left]
theorem bool_dig (x : Bool) (r : List UInt8) : stBool (some ((if x then 1 else 0) :: r)) = (x, some r) := by
  cases x <;> rfl

/-- what is said of the operations of one comparison -/
def fB (g b off N C k fld : Nat) (val : Value) : Nat → Value → Prop
  | 0, v => v = .pointer (some ⟨g, 0, none⟩)
  | 1, v | 6, v => v = val
  | 2, v => v = .slice (some ⟨b, off, none⟩) N C
  | 3, v => v = .int .i64 (k : Int)
  | 4, v => v = .pointer (some ⟨b, off + k * 4, none⟩)
  | 5, v => v = .pointer (some ⟨b, off + (k * 4 + fld), none⟩)
  | _, v => v = .bool true
/-- where the reader is, told by whether it has been asked -/
structure JB (w0 : World) (g : Nat) (s s' : St) (ls : Nat → Bool) (w : World) : Prop where
  rr : Rdr w g (if ls 1 then s' else s)
  b : Below w0.heap.size w0 w
  hg : w0.heap.size ≤ g
theorem JB.keep {w0 w : World} {g : Nat} {s s' : St} {ls : Nat → Bool} (h : JB w0 g s s' ls w) {i : Nat} (h1 : 1 ≠ i) : JB w0 g s s' (updB ls i) w :=
  ⟨by rw [updB_other ls h1]; exact h.rr, h.b, h.hg⟩
theorem JB.rd {w0 w : World} {g : Nat} {s s' : St} {ls : Nat → Bool} (h : JB w0 g s s' ls w) (h1 : ls 1 = false) : Rdr w g s := by
  have := h.rr
  rwa [h1] at this
theorem JB.one {w0 w w' : World} {g : Nat} {s s' : St} {ls : Nat → Bool} (h : JB w0 g s s' ls w) (hr : Rdr w' g s') (hw : w.grownBy w' (some g)) : JB w0 g s s' (updB ls 1) w' :=
  ⟨by rw [updB_at]; exact hr, below_grown h.b hw h.hg, h.hg⟩

theorem after_eq {w : World} {g : Nat} {s s' : St} {f : FuncId} {args : Array Value} {x : Int} (h : Calls Try.prog f args w (Left1 w g (.int .i64 (stInt s).1) (stInt s).2)) (e : stInt s = (x, s')) : Calls Try.prog f args w (Left1 w g (.int .i64 x) s') := by
  rwa [e] at h
theorem after_eqt {w : World} {g : Nat} {s s' : St} {f : FuncId} {args : Array Value} {t : ByteArray} (h : Calls Try.prog f args w (Left1 w g (.string ⟨(stText s).1.toArray⟩) (stText s).2)) (e : stText s = (t.data.toList, s')) : Calls Try.prog f args w (Left1 w g (.string t) s') := by
  rw [e] at h
  simpa using h
theorem after_eqb {w : World} {g : Nat} {s s' : St} {f : FuncId} {args : Array Value} {x : Bool} (h : Calls Try.prog f args w (Left1 w g (.bool (stBool s).1) (stBool s).2)) (e : stBool s = (x, s')) : Calls Try.prog f args w (Left1 w g (.bool x) s') := by
  rwa [e] at h

set_option maxRecDepth 100000 in
set_option maxHeartbeats 4000000 in
theorem octetBack_walk (B : Option Addr) (N C : Nat) (fs : List Fld) (A : Option Addr) (n c : Nat) (lb : List UInt8) (w : World) (h : Hold w A n c lb) (hN : fs.length = N) (hsm : sizes fs + n + N ≤ 1048576)
    (hop : 0 < N → ∃ b off, B = some ⟨b, off, none⟩ ∧ ∀ j (hj : j < fs.length), w.cell? ⟨b, off + j * 4, none⟩ = some (.int .i64 fs[j].1) ∧ w.cell? ⟨b, off + (j * 4 + 1), none⟩ = some (.int .i64 fs[j].2.1) ∧
      w.cell? ⟨b, off + (j * 4 + 2), none⟩ = some (.string fs[j].2.2.1) ∧ w.cell? ⟨b, off + (j * 4 + 3), none⟩ = some (.bool fs[j].2.2.2))
    (hbd : ∀ f ∈ fs, -9223372036854775808 ≤ f.2.1 ∧ f.2.1 ≤ 9223372036854775807) :
    Calls Try.prog 5 #[.slice B N C, .slice A n c] w fun e w' => e = .returned (.bool true) ∧ Below w.heap.size w w' := by
  have H := Lib.hid h
  have HN := Lib.hid hN
  have HO := Lib.hid hop
  have HBD := Lib.hid hbd
  have hlen := encs_length fs
  rw [hN] at hlen
  clear h hN hop hbd
  by_cases hbig : 1000 < N
  · have hbi : (1000 : Int) < (N : Int) := by omega
    go_enter Try.func5, Try.ntmps5
    go_wp2_with fail
    refine (awake_any w).mono ?_
    rintro e w1 ⟨rfl, b1⟩
    go_wp2_with fail
    refine (awake_any w1).mono ?_
    rintro e w2 ⟨rfl, b2⟩
    go_wp2
    go_ret
    exact ⟨rfl, b1.trans (b2.mono b1.size)⟩
  have hbi : (N : Int) ≤ 1000 := by omega
  go_enter Try.func5, Try.ntmps5
  go_wp2_with fail
  refine (awake_any w).mono ?_
  rintro e w1 ⟨rfl, b1⟩
  go_wp2_with fail
  go_loopw [5, 6] (fun v i wr => ∃ (k : Nat) (A' : Option Addr) (n' c' : Nat), k ≤ N ∧ i = .int .i64 k ∧ v = .slice A' n' c' ∧ Hold wr A' n' c' (encs (fs.take k)) ∧ Below w.heap.size w wr) (fun _ i _ => N - (intOf i).toNat)
  case atStart => exact ⟨0, none, 0, 0, Nat.zero_le _, rfl, rfl, Hold.nil _, b1⟩
  case round =>
    obtain ⟨k, A', n', c', hk, rfl, rfl, hh, hb⟩ := hrel
    have hn' : n' ≤ 2000000 := by
      have h1 := hh.1
      have h2 := encs_length (fs.take k)
      have h3 := sizes_take fs k
      have h4 : (fs.take k).length ≤ N := by rw [← HN.out]; simp; omega
      omega
    by_cases hlt : k < N
    · obtain ⟨b, off, rfl, hcs⟩ := HO.out (by omega)
      have hkl : k < fs.length := by rw [HN.out]; exact hlt
      obtain ⟨q0, q1, q2, q3⟩ := hcs k hkl
      have q0 := cell_later hb q0
      have q1 := cell_later hb q1
      have q2 := cell_later hb q2
      have q3 := cell_later hb q3
      have hsn := encs_snoc fs k hkl
      have hsz := sizes_mem fs k hkl
      generalize fs[k] = f at *
      obtain ⟨x, y, s, z⟩ := f
      simp only at q0 q1 q2 q3 hsz
      rw [← Nat.add_assoc] at q1 q2 q3
      have HH := Lib.hid hh
      have HSN := Lib.hid hsn
      clear hh hsn hcs
      by_cases h1 : x = 1
      · subst h1
        go_wp2_with (go_at_call 8; refine (putInt_any A' n' c' _ y wr HH.out (by omega)).mono ?_; rintro e w3 ⟨A3, n3, c3, rfl, o3, b3⟩)
        go_roundw
        case rel => exact ⟨k + 1, A3, n3, c3, by omega, by go_num, rfl, by rw [HSN.out]; exact Hold.of_own o3, hb.trans (b3.mono hb.size)⟩
        case measure => simp [intOf]; omega
      by_cases h2 : x = 2
      · subst h2
        go_wp2_with (go_at_call 9; refine (putText_any A' n' c' _ s wr HH.out (by omega)).mono ?_; rintro e w3 ⟨A3, n3, c3, rfl, o3, b3⟩)
        go_roundw
        case rel => exact ⟨k + 1, A3, n3, c3, by omega, by go_num, rfl, by rw [HSN.out]; have h3 := Hold.of_own o3; rw [List.append_assoc] at h3; exact h3, hb.trans (b3.mono hb.size)⟩
        case measure => simp [intOf]; omega
      have hx1 : (x == 1) = false := beq_eq_false_iff_ne.2 h1
      have hx2 : (x == 2) = false := beq_eq_false_iff_ne.2 h2
      have hE : encF (x, y, s, z) = [if z then 1 else 0] := by simp [encF, h1, h2]
      rw [hE] at HSN
      clear hE h1 h2
      go_wp2_with (go_at_call 10; refine (putBool_any A' n' c' _ z wr HH.out (by omega)).mono ?_; rintro e w3 ⟨A3, n3, c3, rfl, o3, b3⟩)
      go_roundw
      case rel => exact ⟨k + 1, A3, n3, c3, by omega, by go_num, rfl, by rw [HSN.out]; exact Hold.of_own o3, hb.trans (b3.mono hb.size)⟩
      case measure => simp [intOf]; omega
    · obtain rfl : k = N := by omega
      have htk : fs.take k = fs := List.take_of_length_le (by rw [HN.out]; omega)
      rw [htk] at hh
      have HH := Lib.hid hh
      clear hh htk
      go_wp2_with (first
        | (at_builtin; refine wpList_append_hold rfl (.tmp 55) (.tmp 56) rfl w.heap.size (.slice none 0 0) 0 [] rfl (World.ownsRow_nil _ _ _ _) A' n' c' (encs fs) rfl HH.out (by omega) hb.size ?_; intro A2 c2 w2 hown2 hgrow2; simp only [Nat.zero_add, List.nil_append] at hown2; have hb2 : Below w.heap.size w w2 := hb.grown hgrow2 hb.size (by simp [Value.ownBlock]); have HO2 := Lib.hid hown2; clear hown2 hgrow2)
        | (at_builtin; refine wpList_append_hold rfl (.tmp 58) (.tmp 59) rfl w.heap.size (.slice A2 n' c2) n' (encs fs) rfl HO2.out A n c lb rfl (H.out.below hb2) (by omega) hb2.size ?_; intro A3 c3 w3 hown3 hgrow3; have hb3 : Below w.heap.size w w3 := hb2.grown hgrow3 hb2.size (fun k hk => (HO2.out.lt k hk).1); have HO3 := Lib.hid hown3; clear hown3 hgrow3)
        | (go_at_call 16; refine (read_any A3 (n' + n) c3 (encs fs ++ lb) w3 (Hold.of_own HO3.out) (by omega)).mono ?_; rintro e w4 ⟨g, rfl, hr4, _, b4', hg4, _⟩))
      have hgw : w.heap.size ≤ g := Nat.le_trans hb3.size hg4
      have hb4 : Below w.heap.size w w4 := hb3.trans (b4'.mono hb3.size)
      have hn1 := Lib.hid H.out.1
      clear HO2 HO3 hb2 hb3 b4' HH hg4 hb hn' hlt hk
      go_loopw [9] (fun i wr => ∃ j : Nat, j ≤ k ∧ i = .int .i64 j ∧ Rdr wr g (some (encs (fs.drop j) ++ lb)) ∧ Below w.heap.size w wr) (fun i _ => k - (intOf i).toNat)
      case atStart => exact ⟨0, Nat.zero_le _, rfl, hr4, hb4⟩
      case round =>
        clear hr4 hb4
        generalize k = N at *
        obtain ⟨k, hk, rfl, hrd, hbw⟩ := hrel
        have HR := Lib.hid hrd
        have HB := Lib.hid hbw
        clear hrd hbw
        by_cases hlt : k < N
        · obtain ⟨b, off, rfl, hcs⟩ := HO.out (by omega)
          have hkl : k < fs.length := by rw [HN.out]; exact hlt
          obtain ⟨p0, p1, p2, p3⟩ := hcs k hkl
          have q0 := cell_later HB.out p0
          obtain ⟨y1, y2⟩ := HBD.out _ (List.getElem_mem hkl)
          have hcn := encs_cons fs k hkl
          have hsz := sizes_mem fs k hkl
          rw [hcn, List.append_assoc] at HR
          generalize hre : encs (fs.drop (k + 1)) ++ lb = r at *
          have HRE := Lib.hid hre
          clear hre
          generalize fs[k] = f at *
          obtain ⟨x, y, s, z⟩ := f
          simp only at p0 p1 p2 p3 q0 hsz y1 y2
          have P1 := Lib.hid p1
          have P2 := Lib.hid p2
          have P3 := Lib.hid p3
          clear hcs hcn p0 p1 p2 p3
          by_cases h1 : x = 1
          · subst h1
            have hE : encF (1, y, s, z) = dig y := rfl
            rw [hE] at HR
            clear hE
            go_wp2_with fail
            refine wp_region_stepsJ (fun i v _ => fB g b off N C k 1 (.int .i64 y) i v) (fun _ _ => True) (JB w g (some (dig y ++ r)) (some r)) (by kernel_rfl) (by kernel_rfl) (fun _ => trivial) (fun _ _ _ _ h _ => h) ⟨HR.out, HB.out.drew, hgw⟩ ?_ ?_
            · refine ⟨?_, ?_, ?_, ?_, ?_, ?_, ?_, ?_, ?_, trivial⟩
              · intro a w5 ls hJ hi hd hoff hf
                left
                refine ⟨rfl, ?_⟩
                have e8 : a.tmps.getD 8 undef = .pointer (some ⟨g, 0, none⟩) := hoff.slot 8 (no_dst (by kernel_rfl))
                go_simp
                exact ⟨_, rfl, rfl, trivial, hJ.keep (by decide)⟩
              · intro a w5 ls hJ hi hd hoff hf
                left
                refine ⟨rfl, ?_⟩
                have e84 : a.tmps.getD 84 undef = .pointer (some ⟨g, 0, none⟩) := hf 0 _ (hd 0 rfl) rfl
                go_simp
                refine (after_eq (int_any g _ w5 (hJ.rd hi)) (int_dig y r y1 y2)).mono ?_
                rintro e w6 ⟨rfl, hr6, hg6⟩
                exact ⟨_, rfl, rfl, trivial, hJ.one hr6 hg6⟩
              · intro a w5 ls hJ hi hd hoff hf
                left
                refine ⟨rfl, ?_⟩
                have e0 : a.tmps.getD 0 undef = .slice (some ⟨b, off, none⟩) N C := hoff.slot 0 (no_dst (by kernel_rfl))
                go_simp
                exact ⟨_, rfl, rfl, trivial, hJ.keep (by decide)⟩
              · intro a w5 ls hJ hi hd hoff hf
                left
                refine ⟨rfl, ?_⟩
                have e9 : a.tmps.getD 9 undef = .int .i64 (k : Int) := hoff.slot 9 (no_dst (by kernel_rfl))
                go_simp
                exact ⟨_, rfl, rfl, trivial, hJ.keep (by decide)⟩
              · intro a w5 ls hJ hi hd hoff hf
                left
                refine ⟨rfl, ?_⟩
                have e86 : a.tmps.getD 86 undef = .slice (some ⟨b, off, none⟩) N C := hf 2 _ (hd 2 rfl) rfl
                have e87 : a.tmps.getD 87 undef = .int .i64 (k : Int) := hf 3 _ (hd 3 rfl) rfl
                go_simp
                exact ⟨_, rfl, rfl, trivial, hJ.keep (by decide)⟩
              · intro a w5 ls hJ hi hd hoff hf
                left
                refine ⟨rfl, ?_⟩
                have e88 : a.tmps.getD 88 undef = .pointer (some ⟨b, off + k * 4, none⟩) := hf 4 _ (hd 4 rfl) rfl
                go_simp
                exact ⟨_, rfl, rfl, trivial, hJ.keep (by decide)⟩
              · intro a w5 ls hJ hi hd hoff hf
                left
                refine ⟨rfl, ?_⟩
                have e89 : a.tmps.getD 89 undef = .pointer (some ⟨b, off + (k * 4 + 1), none⟩) := hf 5 _ (hd 5 rfl) rfl
                have cy := cell_later hJ.b P1.out
                go_simp
                exact ⟨_, rfl, rfl, trivial, hJ.keep (by decide)⟩
              · intro a w5 ls hJ hi hd hoff hf
                left
                refine ⟨rfl, ?_⟩
                have e85 : a.tmps.getD 85 undef = .int .i64 y := hf 1 _ (hd 1 rfl) rfl
                have e90 : a.tmps.getD 90 undef = .int .i64 y := hf 6 _ (hd 6 rfl) rfl
                go_simp
                exact ⟨_, rfl, rfl, trivial, hJ.keep (by decide)⟩
              · intro a w5 ls hJ hi hd hoff hf
                left
                refine ⟨rfl, ?_⟩
                have e91 : a.tmps.getD 91 undef = .bool true := hf 7 _ (hd 7 rfl) rfl
                go_simp
                exact ⟨_, rfl, rfl, trivial, hJ.keep (by decide)⟩
            · intro a w5 ls hall hJ hoff hf
              have e10 : a.tmps.getD 10 undef = .bool true := hf 8 _ rfl
              have hrr := hJ.rr
              rw [hall 1 (by decide)] at hrr
              have H5 := Lib.hid hrr
              have B5 := Lib.hid hJ.b
              obtain ⟨ys, hys, ha⟩ := off_form hoff (mask := [false, false, false, false, false, false, false, false, false, false, true, false, false, false, false, false, false, false, false, false, false, false, false, false, false, false, false, false, false, false, false, false, false, false, false, false, false, false, false, false, false, false, false, false, false, false, false, false, false, false, false, false, false, false, false, false, false, false, false, false, false, false, false, false, false, false, false, false, false, false, false, false, false, false, false, false, false, false, false, false, false, false, false, false, true, true, true, true, true, true, true, true, false, false, false, false, false, false, false, false, false, false, false, false, false, false, false, false, false, false, false, false, false, false, false, false, false, false, false, false, false]) (by kernel_rfl)
              rw [hys] at e10
              clear hf hoff hys hJ hrr hall
              subst ha
              simp only [fillFrom, e10]
              go_wp2_with (go_at_call 25; refine (bad_any g _ _ H5.out).mono ?_; rintro e w6 ⟨rfl, rfl⟩)
              go_roundw
              case rel => exact ⟨k + 1, by omega, by go_num, by rw [HRE.out]; exact H5.out, B5.out⟩
              case measure => simp [intOf]; omega
          by_cases h2 : x = 2
          · subst h2
            have hE : encF (2, y, s, z) = dig s.data.toList.length ++ s.data.toList := by rw [str_len]; rfl
            rw [hE] at HR
            clear hE
            go_wp2_with fail
            refine wp_region_stepsJ (fun i v _ => fB g b off N C k 2 (.string s) i v) (fun _ _ => True) (JB w g (some (dig s.data.toList.length ++ s.data.toList ++ r)) (some r)) (by kernel_rfl) (by kernel_rfl) (fun _ => trivial) (fun _ _ _ _ h _ => h) ⟨HR.out, HB.out.drew, hgw⟩ ?_ ?_
            · refine ⟨?_, ?_, ?_, ?_, ?_, ?_, ?_, ?_, ?_, trivial⟩
              · intro a w5 ls hJ hi hd hoff hf
                left
                refine ⟨rfl, ?_⟩
                have e8 : a.tmps.getD 8 undef = .pointer (some ⟨g, 0, none⟩) := hoff.slot 8 (no_dst (by kernel_rfl))
                go_simp
                exact ⟨_, rfl, rfl, trivial, hJ.keep (by decide)⟩
              · intro a w5 ls hJ hi hd hoff hf
                left
                refine ⟨rfl, ?_⟩
                have e94 : a.tmps.getD 94 undef = .pointer (some ⟨g, 0, none⟩) := hf 0 _ (hd 0 rfl) rfl
                go_simp
                refine (after_eqt (text_any g _ w5 (hJ.rd hi)) (text_dig s.data.toList r (by rw [str_len]; omega))).mono ?_
                rintro e w6 ⟨rfl, hr6, hg6⟩
                exact ⟨_, rfl, rfl, trivial, hJ.one hr6 hg6⟩
              · intro a w5 ls hJ hi hd hoff hf
                left
                refine ⟨rfl, ?_⟩
                have e0 : a.tmps.getD 0 undef = .slice (some ⟨b, off, none⟩) N C := hoff.slot 0 (no_dst (by kernel_rfl))
                go_simp
                exact ⟨_, rfl, rfl, trivial, hJ.keep (by decide)⟩
              · intro a w5 ls hJ hi hd hoff hf
                left
                refine ⟨rfl, ?_⟩
                have e9 : a.tmps.getD 9 undef = .int .i64 (k : Int) := hoff.slot 9 (no_dst (by kernel_rfl))
                go_simp
                exact ⟨_, rfl, rfl, trivial, hJ.keep (by decide)⟩
              · intro a w5 ls hJ hi hd hoff hf
                left
                refine ⟨rfl, ?_⟩
                have e96 : a.tmps.getD 96 undef = .slice (some ⟨b, off, none⟩) N C := hf 2 _ (hd 2 rfl) rfl
                have e97 : a.tmps.getD 97 undef = .int .i64 (k : Int) := hf 3 _ (hd 3 rfl) rfl
                go_simp
                exact ⟨_, rfl, rfl, trivial, hJ.keep (by decide)⟩
              · intro a w5 ls hJ hi hd hoff hf
                left
                refine ⟨rfl, ?_⟩
                have e98 : a.tmps.getD 98 undef = .pointer (some ⟨b, off + k * 4, none⟩) := hf 4 _ (hd 4 rfl) rfl
                go_simp
                exact ⟨_, rfl, rfl, trivial, hJ.keep (by decide)⟩
              · intro a w5 ls hJ hi hd hoff hf
                left
                refine ⟨rfl, ?_⟩
                have e99 : a.tmps.getD 99 undef = .pointer (some ⟨b, off + (k * 4 + 2), none⟩) := hf 5 _ (hd 5 rfl) rfl
                have cy := cell_later hJ.b P2.out
                go_simp
                exact ⟨_, rfl, rfl, trivial, hJ.keep (by decide)⟩
              · intro a w5 ls hJ hi hd hoff hf
                left
                refine ⟨rfl, ?_⟩
                have e95 : a.tmps.getD 95 undef = .string s := hf 1 _ (hd 1 rfl) rfl
                have e100 : a.tmps.getD 100 undef = .string s := hf 6 _ (hd 6 rfl) rfl
                go_simp
                exact ⟨_, rfl, rfl, trivial, hJ.keep (by decide)⟩
              · intro a w5 ls hJ hi hd hoff hf
                left
                refine ⟨rfl, ?_⟩
                have e101 : a.tmps.getD 101 undef = .bool true := hf 7 _ (hd 7 rfl) rfl
                go_simp
                exact ⟨_, rfl, rfl, trivial, hJ.keep (by decide)⟩
            · intro a w5 ls hall hJ hoff hf
              have e10 : a.tmps.getD 10 undef = .bool true := hf 8 _ rfl
              have hrr := hJ.rr
              rw [hall 1 (by decide)] at hrr
              have H5 := Lib.hid hrr
              have B5 := Lib.hid hJ.b
              obtain ⟨ys, hys, ha⟩ := off_form hoff (mask := [false, false, false, false, false, false, false, false, false, false, true, false, false, false, false, false, false, false, false, false, false, false, false, false, false, false, false, false, false, false, false, false, false, false, false, false, false, false, false, false, false, false, false, false, false, false, false, false, false, false, false, false, false, false, false, false, false, false, false, false, false, false, false, false, false, false, false, false, false, false, false, false, false, false, false, false, false, false, false, false, false, false, false, false, false, false, false, false, false, false, false, false, false, false, true, true, true, true, true, true, true, true, false, false, false, false, false, false, false, false, false, false, false, false, false, false, false, false, false, false, false]) (by kernel_rfl)
              rw [hys] at e10
              clear hf hoff hys hJ hrr hall
              subst ha
              simp only [fillFrom, e10]
              go_wp2_with (go_at_call 25; refine (bad_any g _ _ H5.out).mono ?_; rintro e w6 ⟨rfl, rfl⟩)
              go_roundw
              case rel => exact ⟨k + 1, by omega, by go_num, by rw [HRE.out]; exact H5.out, B5.out⟩
              case measure => simp [intOf]; omega
          have hx1 : (x == 1) = false := beq_eq_false_iff_ne.2 h1
          have hx2 : (x == 2) = false := beq_eq_false_iff_ne.2 h2
          have hE : encF (x, y, s, z) = [if z then 1 else 0] := by simp [encF, h1, h2]
          rw [hE] at HR
          clear hE h1 h2
          go_wp2_with fail
          refine wp_region_stepsJ (fun i v _ => fB g b off N C k 3 (.bool z) i v) (fun _ _ => True) (JB w g (some ((if z then 1 else 0) :: r)) (some r)) (by kernel_rfl) (by kernel_rfl) (fun _ => trivial) (fun _ _ _ _ h _ => h) ⟨HR.out, HB.out.drew, hgw⟩ ?_ ?_
          · refine ⟨?_, ?_, ?_, ?_, ?_, ?_, ?_, ?_, ?_, trivial⟩
            · intro a w5 ls hJ hi hd hoff hf
              left
              refine ⟨rfl, ?_⟩
              have e8 : a.tmps.getD 8 undef = .pointer (some ⟨g, 0, none⟩) := hoff.slot 8 (no_dst (by kernel_rfl))
              go_simp
              exact ⟨_, rfl, rfl, trivial, hJ.keep (by decide)⟩
            · intro a w5 ls hJ hi hd hoff hf
              left
              refine ⟨rfl, ?_⟩
              have e74 : a.tmps.getD 74 undef = .pointer (some ⟨g, 0, none⟩) := hf 0 _ (hd 0 rfl) rfl
              go_simp
              refine (after_eqb (bool_any g _ w5 (hJ.rd hi)) (bool_dig z r)).mono ?_
              rintro e w6 ⟨rfl, hr6, hg6⟩
              exact ⟨_, rfl, rfl, trivial, hJ.one hr6 hg6⟩
            · intro a w5 ls hJ hi hd hoff hf
              left
              refine ⟨rfl, ?_⟩
              have e0 : a.tmps.getD 0 undef = .slice (some ⟨b, off, none⟩) N C := hoff.slot 0 (no_dst (by kernel_rfl))
              go_simp
              exact ⟨_, rfl, rfl, trivial, hJ.keep (by decide)⟩
            · intro a w5 ls hJ hi hd hoff hf
              left
              refine ⟨rfl, ?_⟩
              have e9 : a.tmps.getD 9 undef = .int .i64 (k : Int) := hoff.slot 9 (no_dst (by kernel_rfl))
              go_simp
              exact ⟨_, rfl, rfl, trivial, hJ.keep (by decide)⟩
            · intro a w5 ls hJ hi hd hoff hf
              left
              refine ⟨rfl, ?_⟩
              have e76 : a.tmps.getD 76 undef = .slice (some ⟨b, off, none⟩) N C := hf 2 _ (hd 2 rfl) rfl
              have e77 : a.tmps.getD 77 undef = .int .i64 (k : Int) := hf 3 _ (hd 3 rfl) rfl
              go_simp
              exact ⟨_, rfl, rfl, trivial, hJ.keep (by decide)⟩
            · intro a w5 ls hJ hi hd hoff hf
              left
              refine ⟨rfl, ?_⟩
              have e78 : a.tmps.getD 78 undef = .pointer (some ⟨b, off + k * 4, none⟩) := hf 4 _ (hd 4 rfl) rfl
              go_simp
              exact ⟨_, rfl, rfl, trivial, hJ.keep (by decide)⟩
            · intro a w5 ls hJ hi hd hoff hf
              left
              refine ⟨rfl, ?_⟩
              have e79 : a.tmps.getD 79 undef = .pointer (some ⟨b, off + (k * 4 + 3), none⟩) := hf 5 _ (hd 5 rfl) rfl
              have cy := cell_later hJ.b P3.out
              go_simp
              exact ⟨_, rfl, rfl, trivial, hJ.keep (by decide)⟩
            · intro a w5 ls hJ hi hd hoff hf
              left
              refine ⟨rfl, ?_⟩
              have e75 : a.tmps.getD 75 undef = .bool z := hf 1 _ (hd 1 rfl) rfl
              have e80 : a.tmps.getD 80 undef = .bool z := hf 6 _ (hd 6 rfl) rfl
              go_simp
              exact ⟨_, rfl, rfl, trivial, hJ.keep (by decide)⟩
            · intro a w5 ls hJ hi hd hoff hf
              left
              refine ⟨rfl, ?_⟩
              have e81 : a.tmps.getD 81 undef = .bool true := hf 7 _ (hd 7 rfl) rfl
              go_simp
              exact ⟨_, rfl, rfl, trivial, hJ.keep (by decide)⟩
          · intro a w5 ls hall hJ hoff hf
            have e10 : a.tmps.getD 10 undef = .bool true := hf 8 _ rfl
            have hrr := hJ.rr
            rw [hall 1 (by decide)] at hrr
            have H5 := Lib.hid hrr
            have B5 := Lib.hid hJ.b
            obtain ⟨ys, hys, ha⟩ := off_form hoff (mask := [false, false, false, false, false, false, false, false, false, false, true, false, false, false, false, false, false, false, false, false, false, false, false, false, false, false, false, false, false, false, false, false, false, false, false, false, false, false, false, false, false, false, false, false, false, false, false, false, false, false, false, false, false, false, false, false, false, false, false, false, false, false, false, false, false, false, false, false, false, false, false, false, false, false, true, true, true, true, true, true, true, true, false, false, false, false, false, false, false, false, false, false, false, false, false, false, false, false, false, false, false, false, false, false, false, false, false, false, false, false, false, false, false, false, false, false, false, false, false, false, false]) (by kernel_rfl)
            rw [hys] at e10
            clear hf hoff hys hJ hrr hall
            subst ha
            simp only [fillFrom, e10]
            go_wp2_with (go_at_call 25; refine (bad_any g _ _ H5.out).mono ?_; rintro e w6 ⟨rfl, rfl⟩)
            go_roundw
            case rel => exact ⟨k + 1, by omega, by go_num, by rw [HRE.out]; exact H5.out, B5.out⟩
            case measure => simp [intOf]; omega
        · obtain rfl : k = N := by omega
          have hdk : fs.drop k = [] := List.drop_eq_nil_of_le (by rw [HN.out]; omega)
          rw [hdk] at HR
          have he : encs [] ++ lb = lb := rfl
          rw [he] at HR
          clear hdk he
          have hL := left_any g (some lb) wr HR.out
          have hD := done_any g (some lb) wr HR.out
          have e1 : ((left (some lb)).length : Int) = (n : Int) := by rw [← hn1.out]; rfl
          have e2 : stDone (some lb) = ((n : Int) == 0) := by
            unfold stDone
            rw [e1]
            simp
          rw [e1] at hL
          rw [e2] at hD
          have HL := Lib.hid hL
          have HD := Lib.hid hD
          clear hL hD e1 e2
          go_wp2_with (first
            | (go_at_call 26; refine HL.out.mono ?_; rintro e w6 ⟨rfl, rfl⟩)
            | (go_at_call 28; refine HD.out.mono ?_; rintro e w6 ⟨rfl, rfl⟩))
          go_ret
          exact ⟨rfl, HB.out⟩
end Go.Proofs.Ytoidbpkclaebpaa
