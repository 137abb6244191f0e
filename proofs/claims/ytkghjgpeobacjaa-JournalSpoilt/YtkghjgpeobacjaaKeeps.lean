/-
  What is proved: the walk of the law JournalKeeps: for all bytes it returns true and turns nothing that was there. Conditions: the number of bytes is within Go's own reach.
-/
import Derived.Test.YtkghjgpeobacjaaRoom
import Derived.Test.YtkghjgpeobacjaaJh
import Derived.BigQuiet
namespace Go.Proofs.Ytkghjgpeobacjaa
open Go.RowKit

theorem own_others {w w' : World} {base n e z : Nat} {v : Value} {xs : List Value} (h : w.ownsRow base e z v n xs) (ho : Others w w') (h1 : e ≠ 70) (h2 : e ≠ 86) (h3 : e ≠ 88) (h4 : e ≠ 78) : w'.ownsRow base e z v n xs :=
  own_cells h fun b C t fr ht hb => by subst ht; exact ho.2 b C _ fr hb h1 h2 h3 h4
/-- one byte of a row of the law's own is turned -/
theorem own_set {w : World} {base n c : Nat} {A : Option Addr} {xs : List UInt8} (h : w.ownsRow base 5 1 (.slice A n c) n (bv xs)) {k : Nat} (hk : k < n) :
    ∃ Q, A = some ⟨Q, 0, none⟩ ∧ base ≤ Q ∧ (∃ b : UInt8, w.cell? ⟨Q, k, none⟩ = some (.int .u8 (b.toNat : Int))) ∧ w.frozen? ⟨Q, k, none⟩ = false ∧ (∃ C, w.heap[Q]? = some (.cells C 5 (0, 0))) ∧
      ∀ y : Int, ∃ xs', (w.setCell ⟨Q, k, none⟩ (.int .u8 (y % 256))).ownsRow base 5 1 (.slice A n c) n (bv xs') := by
  have hxl : xs.length = n := by simpa [bv_length] using h.1
  rcases h.2 with ⟨hv, h0⟩ | ⟨Q, cap, cur, hv, hb, hg, h1, h2, h3, h4⟩
  · omega
  · injection hv with e1 e2 e3
    subst e1 e3
    have hks : k < cur.size := by omega
    refine ⟨Q, rfl, hb, ⟨xs[k]'(by omega), ?_⟩, by simp [World.frozen?, hg], ⟨cur, hg⟩, fun y => ⟨xs.set k (byteOf y), by simpa [bv_length] using hxl, .inr ⟨Q, c, _, rfl, hb, heap_setCell_at hg k _, h1, h2, by simpa using h3, ?_⟩⟩⟩
    · rw [cell_of_row w Q k cur 5 (0, 0) hg]
      have : (cur.toList.take (n * 1))[k]? = (bv xs)[k]? := by rw [h4]
      rw [List.getElem?_take, if_pos (by omega)] at this
      rw [← Array.getElem?_toList, this]
      exact (bv_get xs k _).2 ⟨by omega, rfl⟩
    · rw [← byteOf_cast, ← bv_set, ← h4, Array.toList_setIfInBounds, List.take_set]
/-- frames: one alone -/
theorem frames_one {base : Nat} {w : World} {b : List UInt8} {B : Option Addr} {C : Nat} (h : Frames base w [b] (.slice B 1 C)) : ∃ Q A c, B = some ⟨Q, 0, none⟩ ∧ base ≤ Q ∧ w.cell? ⟨Q, 0, none⟩ = some (.slice A b.length c) ∧ w.ownsRow base 5 1 (.slice A b.length c) b.length (bv b) ∧ 1 ≤ C ∧ ∃ cur, w.heap[Q]? = some (.cells cur 37 (0, 0)) := by
  obtain ⟨ps, ⟨h1, h2⟩, h3⟩ := h
  have hlen : ps.length = 1 := by
    have := congrArg List.length h1
    simpa using this
  match ps, hlen, h1 with
  | [p], _, h1 =>
    obtain ⟨A, n, c, l⟩ := p
    simp at h1
    subst h1
    have h4 := h2 (A, n, c, l) (by simp)
    have hn : n = l.length := by
      have := h4.1
      simp [bv_length] at this
      exact this.symm
    subst hn
    rcases h3.2 with ⟨_, h0⟩ | ⟨Q, cap, cur, hv, hb, hg, k1, k2, k3, k4⟩
    · simp at h0
    · injection hv with e1 e2 e3
      subst e1 e3
      refine ⟨Q, A, c, rfl, hb, ?_, h4, k1, cur, hg⟩
      have := h3.cells (g := Q) rfl 0 (.slice A l.length c) (by simp [Part.val])
      rwa [Addr.add_lit] at this

/-- an Append that fits, on a disk that is never armed -/
theorem Calm0.has_app {x : JS} {fs : List (List UInt8)} {b : List UInt8} (h : Calm0 x) (hs : Has x fs) (hb : b.length ≤ 1048576) (hf : x.en + 16 + b.length ≤ 64 * (x.to - x.fr)) :
    x.err b = 0 ∧ Calm0 (x.app b) ∧ Has (x.app b) (fs ++ [b]) ∧ (x.app b).fr = x.fr ∧ (x.app b).to = x.to ∧ (x.app b).en = x.en + 16 + b.length ∧ (x.app b).cn = x.cn + 1 := by
  obtain ⟨h1, h2, h3, h4, h5, h6, _⟩ := h.fits hb hf
  rcases hs.append h.buf hb hf (by rw [h.up]; decide) with ⟨_, g, _⟩ | ⟨e, _⟩
  · exact ⟨h1, h2, g, h3, h4, h5, h6⟩
  · rw [h1] at e
    exact absurd e (by decide)
/-- Open of a journal as it is -/
theorem open_has {w0 w : World} {j g : Nat} {x : JS} {fs : List (List UInt8)} (h : JM w0 w j g x) (hs : Has x fs) (hu : x.d.left ≠ 0) (hbuf : x.d.buf.length ≤ 4611686018427387904) :
    Calls Try.prog 10 #[.pointer (some ⟨g, 0, none⟩), .int .i64 (x.fr : Int), .int .i64 (x.to : Int), .int .i64 (x.en : Int), .int .i64 (x.cn : Int)] w fun e w' => ∃ j' B C, e = .returned (.tuple #[.pointer (some ⟨j', 0, none⟩), .slice B fs.length C, .int .i64 0]) ∧ w.heap.size ≤ j' ∧ JM w0 w' j' g x ∧ Frames w.heap.size w' fs (.slice B fs.length C) ∧ Below w.heap.size w w' := by
  have hm := hs.dok.most
  obtain ⟨a1, a2, a3, a4⟩ := hs.ok
  refine (open_mine h.1 (x.fr : Int) (x.to : Int) (x.en : Int) (x.cn : Int) (by omega) (by omega) hbuf).mono fun e w' hp => ?_
  obtain ⟨e0, e1⟩ := hs.opens hu
  obtain ⟨j', B, C, rfl, hj, hJ, hF, hb⟩ := hp.1 e0
  rw [e1] at hF ⊢
  exact ⟨j', B, C, rfl, hj, ⟨h.1.below hb, hJ, by have := h.1.b.size; omega⟩, hF, hb⟩

/-- what the operations of the lines that look at one frame yield -/
def onF (b : Bool) (Q C : Nat) (A1 : Option Addr) (n1 c1 : Nat) (A : Option Addr) (n c : Nat) (l : List UInt8) : Nat → Value → World → Prop
  | 0, v, _ => v = .int .i64 0
  | 3, v, _ | 8, v, _ => v = .slice (some ⟨Q, 0, none⟩) 1 C
  | 4, v, _ => v = .int .i64 1
  | 9, v, _ => v = .pointer (some ⟨Q, 0, none⟩)
  | 10, v, _ => v = .slice A1 n1 c1
  | 11, v, _ | 13, v, _ => v = .string ⟨l.toArray⟩
  | 12, v, _ => v = .slice A n c
  | _, v, _ => v = .bool b
theorem onF_mono {b : Bool} {Q C : Nat} {A1 : Option Addr} {n1 c1 : Nat} {A : Option Addr} {n c : Nat} {l : List UInt8} (i : Nat) (v : Value) (w w' : World) (h : onF b Q C A1 n1 c1 A n c l i v w) : onF b Q C A1 n1 c1 A n c l i v w' := by
  unfold onF at *
  split at h <;> exact h

/-- a law's own row and what it was read into -/
def KpR (w : World) (j g : Nat) (x : JS) (base : Nat) (Q : Nat) (A : Option Addr) (n c : Nat) (wr : World) : Prop :=
  JM w wr j g x ∧ wr.cell? ⟨Q, 0, none⟩ = some (.slice A n c) ∧ (∃ cur, wr.heap[Q]? = some (.cells cur 37 (0, 0))) ∧ ∃ xs, wr.ownsRow base 5 1 (.slice A n c) n (bv xs)
theorem set_other {w : World} {Q Q' k : Nat} {v u : Value} (h : w.cell? ⟨Q, 0, none⟩ = some u) (hne : Q ≠ Q') : (w.setCell ⟨Q', k, none⟩ v).cell? ⟨Q, 0, none⟩ = some u := by
  rw [← h]
  exact World.cell?_setCell_other w _ _ v (fun e => hne (by injection e with e1; exact e1.symm))
theorem JM.put5 {w0 w : World} {j g : Nat} {x : JS} (h : JM w0 w j g x) {Q k : Nat} {C : Array Value} {fr : Nat × Nat} (hQ : w.heap[Q]? = some (.cells C 5 fr)) (h0 : w0.heap.size ≤ Q) (v : Value) : JM w0 (w.setCell ⟨Q, k, none⟩ v) j g x := by
  refine h.frame (S := fun b => b = Q) (Chg.setCell (Chg.refl (fun b => b = Q) w) (p := ⟨Q, k, none⟩) (Or.inl rfl) v) (fun b hb => by subst hb; exact h0) fun b hb => ?_
  subst hb
  exact ⟨C, 5, fr, hQ, by decide, by decide, by decide, by decide⟩

set_option maxRecDepth 100000 in
set_option maxHeartbeats 2000000 in
theorem journalKeeps_walk (A : Option Addr) (n c : Nat) (l : List UInt8) (w : World) (hl : Hold w A n c l) (hn : n ≤ 140737488355328) :
    Calls Try.prog 7 #[.slice A n c] w fun e w' => e = .returned (.bool true) ∧ Below w.heap.size w w' := by
  have HL := Lib.hid hl
  have hll := Lib.hid hl.1
  clear hl
  go_enter Try.func7, Try.ntmps7
  go_wp2_with fail
  refine (new_mine w w 100 (Below.refl _ _)).mono ?_
  rintro e w1 ⟨g, rfl, h1, _, _⟩
  have H1 : Hid (Mine w w1 g (newSt 100)) := h1
  clear h1
  go_wp2_with fail
  refine (open_zero H1.out 0 100 (by decide) (by simp [newSt]) (by decide) (by decide)).mono ?_
  rintro e w2 ⟨j, B0, C0, rfl, h2, -⟩
  have H2 := Lib.hid h2
  clear h2 H1
  go_wp2_with fail
  refine (awake_any w2).mono ?_
  rintro e w3 ⟨rfl, hb3⟩
  have H3 := Lib.hid (H2.out.below hb3)
  clear H2 hb3
  by_cases hbig : (3000 : Int) < (n : Int)
  · go_wp2_with fail
    refine (awake_any w3).mono ?_
    rintro e w4 ⟨rfl, hb4⟩
    have H4 := Lib.hid (H3.out.below hb4).b
    clear hb4 H3
    go_wp2_with fail
    go_ret
    exact ⟨rfl, H4.out⟩
  have hn3 : n ≤ 3000 := by omega
  have hbase : w.heap.size ≤ w3.heap.size := H3.out.b.size
  have HLW := Lib.hid (HL.out.below H3.out.b)
  go_wp2_with (at_builtin; refine wpList_append_hold rfl (.tmp 35) (.tmp 36) rfl w3.heap.size (.slice none 0 0) 0 [] rfl (World.ownsRow_nil _ _ _ _) A n c l rfl HLW.out (by omega) (Nat.le_refl _) ?_; intro Am cm w4 hown4 hgrow4; simp only [Nat.zero_add, List.nil_append] at hown4; have hb4 : Below w3.heap.size w3 w4 := (Below.refl _ _).grown hgrow4 (Nat.le_refl _) (by simp [Value.ownBlock]); have HO4 := Lib.hid hown4; have H4 := Lib.hid (H3.out.below hb4); clear hown4 hgrow4 hb4)
  have hx0 : Has ⟨newSt 100, 0, 100, 0, 0⟩ [] := Has.zero (newSt_ok 100 (by decide) (by decide)) (by decide) (by simp [newSt])
  have hc0 : Calm0 ⟨newSt 100, 0, 100, 0, 0⟩ := Calm0.zero (by decide) (by decide)
  have hap := hc0.has_app hx0 (b := l) (by rw [hll.out]; omega) (by rw [hll.out]; simp only; omega)
  have HAP := Lib.hid hap
  have HX0 := Lib.hid hx0
  clear hap hx0 hc0
  refine (append_jm H4.out HX0.out.ok Am n cm l (Hold.of_own HO4.out) (by omega) (by decide)).mono ?_
  rintro e w5 ⟨rfl, h5, ho5⟩
  rw [HAP.out.1]
  have HO5 := Lib.hid (own_others HO4.out ho5 (by decide) (by decide) (by decide) (by decide))
  have H5 := Lib.hid h5
  clear h5 ho5 HX0 H4 HO4 H3
  obtain ⟨x, hx⟩ : ∃ x, x = (JS.mk (newSt 100) 0 100 0 0).app l := ⟨_, rfl⟩
  rw [← hx] at H5 HAP
  have hfr : x.fr = 0 := HAP.out.2.2.2.1
  have hto : x.to = 100 := HAP.out.2.2.2.2.1
  have hcn : x.cn = 1 := HAP.out.2.2.2.2.2.2
  have hup : x.d.left ≠ 0 := by rw [HAP.out.2.1.up]; decide
  have hbu : x.d.buf.length ≤ 4611686018427387904 := by rw [HAP.out.2.1.buf]; decide
  have HHAS : Hid (Has x [l]) := Lib.hid HAP.out.2.2.1
  clear hx HAP
  go_wp2_with fail
  go_loopw [8] (fun i wr => ∃ (k : Nat) (xs : List UInt8), k ≤ n ∧ i = .int .i64 (k : Int) ∧ JM w wr j g x ∧ wr.ownsRow w3.heap.size 5 1 (.slice Am n cm) n (bv xs)) (fun i _ => n - (intOf i).toNat)
  case atStart => exact ⟨0, l, by omega, rfl, H5.out, HO5.out⟩
  case round =>
    obtain ⟨k, xs, hk, rfl, hM, hO⟩ := hrel
    have HM := Lib.hid hM
    clear hM H5 HO5
    by_cases hlt : k < n
    · obtain ⟨Q, rfl, hQ, ⟨b, hcell⟩, hfrz, ⟨C, hC⟩, hset⟩ := own_set hO hlt
      have HSET := Lib.hid hset
      have HCC := Lib.hid hC
      have hbb := b.toNat_lt
      have hk0 : (0 : Int) ≤ (k : Int) := Int.natCast_nonneg _
      have hk1 : (k : Int) < (n : Int) := by omega
      clear hset hC hO
      go_wp2_with fail
      go_roundw
      case rel =>
        obtain ⟨xs', hx'⟩ := HSET.out ((b.toNat : Int) + 1)
        exact ⟨k + 1, xs', by omega, by go_num, HM.out.put5 HCC.out (by omega) _, hx'⟩
      case measure => simp [intOf]; omega
    · obtain rfl : n = k := by omega
      clear hO
      go_wp2_with fail
      refine (jend_jm HM.out).mono ?_
      rintro e w6 ⟨rfl, rfl⟩
      have HOP := Lib.hid (open_has HM.out HHAS.out hup hbu)
      rw [hfr, hto, hcn] at HOP
      go_wp2_with fail
      refine HOP.out.mono ?_
      rintro e w7 ⟨j7, B7, C7, rfl, -, -, hF7, hb7⟩
      obtain ⟨Q, A7, c7, rfl, hQ, hcell, hown7, hC7, cur7, hcur7⟩ := frames_one hF7
      have h6sz : w.heap.size ≤ w6.heap.size := HM.out.b.size
      have HQ7 := Lib.hid hcur7
      have hQ5 : w6.heap.size ≤ Q := hQ
      have H7 := Lib.hid (HM.out.below hb7)
      have HO7 := Lib.hid (Hold.of_own hown7).drew
      have HW7 := Lib.hid hown7
      have HL7 := Lib.hid ((HL.out.below HM.out.b).below hb7).drew
      rw [hll.out] at hcell HO7 HW7
      have CQ : Hid (w7.drew.cell? ⟨Q, 0, none⟩ = some (.slice A7 n c7)) := Lib.hid hcell
      clear hF7 hb7 HM HOP hown7 hcell hcur7
      go_wp2_with fail
      refine wp_region_steps (onF false Q C7 A7 n c7 A n c l) (fun w w' => Below w.heap.size w w') (by kernel_rfl) (by kernel_rfl) (fun w => Below.refl _ _) (fun _ _ _ h k => h.trans (k.mono h.size)) (fun i v w w' h _ => onF_mono i v w w' h) ?_ ?_
      · refine ⟨?_, ?_, ?_, ?_, ?_, ?_, ?_, ?_, ?_, ?_, ?_, ?_, ?_, ?_, ?_, ?_, trivial⟩
        · intro a W hR hoff hd
          left
          refine ⟨rfl, ?_⟩
          have e0 : a.tmps.getD 6 undef = .int .i64 0 := hoff.slot 6 (no_dst (by kernel_rfl))
          go_simp
          exact ⟨_, rfl, rfl, Below.refl _ _⟩
        · intro a W hR hoff hd
          left
          refine ⟨rfl, ?_⟩
          have e0 : a.tmps.getD 61 undef = .int .i64 0 := hd 0 _ rfl rfl
          go_simp
          exact ⟨_, rfl, rfl, Below.refl _ _⟩
        · intro a W hR hoff hd
          left
          refine ⟨rfl, ?_⟩
          have e0 : a.tmps.getD 62 undef = .bool false := hd 1 _ rfl rfl
          go_simp
          exact ⟨_, rfl, rfl, Below.refl _ _⟩
        · intro a W hR hoff hd
          left
          have eg : a.tmps.getD 63 undef = .bool false := hd 2 _ rfl rfl
          refine ⟨wanted_of (ops := _) (j := 2) (b := false) rfl rfl rfl eg, ?_⟩
          clear eg
          have e0 : a.tmps.getD 10 undef = .slice (some ⟨Q, 0, none⟩) 1 C7 := hoff.slot 10 (no_dst (by kernel_rfl))
          go_simp
          exact ⟨_, rfl, rfl, Below.refl _ _⟩
        · intro a W hR hoff hd
          left
          have eg : a.tmps.getD 63 undef = .bool false := hd 2 _ rfl rfl
          refine ⟨wanted_of (ops := _) (j := 2) (b := false) rfl rfl rfl eg, ?_⟩
          clear eg
          have e0 : a.tmps.getD 64 undef = .slice (some ⟨Q, 0, none⟩) 1 C7 := hd 3 _ rfl rfl
          go_simp
          exact ⟨_, rfl, rfl, Below.refl _ _⟩
        · intro a W hR hoff hd
          left
          have eg : a.tmps.getD 63 undef = .bool false := hd 2 _ rfl rfl
          refine ⟨wanted_of (ops := _) (j := 2) (b := false) rfl rfl rfl eg, ?_⟩
          clear eg
          have e0 : a.tmps.getD 65 undef = .int .i64 1 := hd 4 _ rfl rfl
          go_simp
          exact ⟨_, rfl, rfl, Below.refl _ _⟩
        · intro a W hR hoff hd
          left
          refine ⟨rfl, ?_⟩
          have e0 : a.tmps.getD 63 undef = .bool false := hd 2 _ rfl rfl
          have e1 : a.tmps.getD 66 undef = .bool false := hd 5 _ rfl rfl
          go_simp
          exact ⟨_, rfl, rfl, Below.refl _ _⟩
        · intro a W hR hoff hd
          left
          refine ⟨rfl, ?_⟩
          have e0 : a.tmps.getD 67 undef = .bool false := hd 6 _ rfl rfl
          go_simp
          exact ⟨_, rfl, rfl, Below.refl _ _⟩
        · intro a W hR hoff hd
          left
          have eg : a.tmps.getD 68 undef = .bool false := hd 7 _ rfl rfl
          refine ⟨wanted_of (ops := _) (j := 7) (b := false) rfl rfl rfl eg, ?_⟩
          clear eg
          have e0 : a.tmps.getD 10 undef = .slice (some ⟨Q, 0, none⟩) 1 C7 := hoff.slot 10 (no_dst (by kernel_rfl))
          go_simp
          exact ⟨_, rfl, rfl, Below.refl _ _⟩
        · intro a W hR hoff hd
          left
          have eg : a.tmps.getD 68 undef = .bool false := hd 7 _ rfl rfl
          refine ⟨wanted_of (ops := _) (j := 7) (b := false) rfl rfl rfl eg, ?_⟩
          clear eg
          have e0 : a.tmps.getD 69 undef = .slice (some ⟨Q, 0, none⟩) 1 C7 := hd 8 _ rfl rfl
          have hC1 := hC7
          go_simp
          exact ⟨_, rfl, rfl, Below.refl _ _⟩
        · intro a W hR hoff hd
          left
          have eg : a.tmps.getD 68 undef = .bool false := hd 7 _ rfl rfl
          refine ⟨wanted_of (ops := _) (j := 7) (b := false) rfl rfl rfl eg, ?_⟩
          clear eg
          have e0 : a.tmps.getD 70 undef = .pointer (some ⟨Q, 0, none⟩) := hd 9 _ rfl rfl
          have cl := cell_later hR CQ.out
          go_simp
          exact ⟨_, rfl, rfl, Below.refl _ _⟩
        · intro a W hR hoff hd
          left
          have eg : a.tmps.getD 68 undef = .bool false := hd 7 _ rfl rfl
          refine ⟨wanted_of (ops := _) (j := 7) (b := false) rfl rfl rfl eg, ?_⟩
          clear eg
          have e0 : a.tmps.getD 71 undef = .slice A7 n c7 := hd 10 _ rfl rfl
          have cv := conv_hold ((HO7.out).below hR)
          go_simp
          exact ⟨_, rfl, rfl, Below.refl _ _⟩
        · intro a W hR hoff hd
          left
          have eg : a.tmps.getD 68 undef = .bool false := hd 7 _ rfl rfl
          refine ⟨wanted_of (ops := _) (j := 7) (b := false) rfl rfl rfl eg, ?_⟩
          clear eg
          have e0 : a.tmps.getD 0 undef = .slice A n c := hoff.slot 0 (no_dst (by kernel_rfl))
          go_simp
          exact ⟨_, rfl, rfl, Below.refl _ _⟩
        · intro a W hR hoff hd
          left
          have eg : a.tmps.getD 68 undef = .bool false := hd 7 _ rfl rfl
          refine ⟨wanted_of (ops := _) (j := 7) (b := false) rfl rfl rfl eg, ?_⟩
          clear eg
          have e0 : a.tmps.getD 73 undef = .slice A n c := hd 12 _ rfl rfl
          have cv := conv_hold ((HL7.out).below hR)
          go_simp
          exact ⟨_, rfl, rfl, Below.refl _ _⟩
        · intro a W hR hoff hd
          left
          have eg : a.tmps.getD 68 undef = .bool false := hd 7 _ rfl rfl
          refine ⟨wanted_of (ops := _) (j := 7) (b := false) rfl rfl rfl eg, ?_⟩
          clear eg
          have e0 : a.tmps.getD 72 undef = .string ⟨l.toArray⟩ := hd 11 _ rfl rfl
          have e1 : a.tmps.getD 74 undef = .string ⟨l.toArray⟩ := hd 13 _ rfl rfl
          go_simp
          exact ⟨_, rfl, rfl, Below.refl _ _⟩
        · intro a W hR hoff hd
          left
          refine ⟨rfl, ?_⟩
          have e0 : a.tmps.getD 68 undef = .bool false := hd 7 _ rfl rfl
          have e1 : a.tmps.getD 75 undef = .bool false := hd 14 _ rfl rfl
          go_simp
          exact ⟨_, rfl, rfl, Below.refl _ _⟩
      · intro a W hR hoff hf
        have e76 : a.tmps.getD 76 undef = .bool false := hf 15 _ rfl
        have H8 := Lib.hid (H7.out.drew.below hR)
        have hq8 : W.heap[Q]? = some (.cells cur7 37 (0, 0)) := (hR.block Q (Array.getElem?_eq_some_iff.1 HQ7.out).1).trans HQ7.out
        have HQ8 := Lib.hid hq8
        have c8 : W.cell? ⟨Q, 0, none⟩ = some (.slice A7 n c7) := cell_later hR CQ.out
        have HO8 := Lib.hid (own_belowG (show w7.drew.ownsRow w6.heap.size 5 1 (.slice A7 n c7) n (bv l) from HW7.out) hR)
        obtain ⟨ys, hys, ha⟩ := off_form hoff (mask := [false, false, false, false, false, false, false, false, false, false, false, false, false, false, false, false, false, false, false, false, false, false, false, false, false, false, false, false, false, false, false, false, false, false, false, false, false, false, false, false, false, false, false, false, false, false, false, false, false, false, false, false, false, false, false, false, false, false, false, false, false, true, true, true, true, true, true, true, true, true, true, true, true, true, true, true, true, false, false, false, false, false, false, false, false, false, false, false, false, false, false, false, false, false, false, false, false, false, false, false, false, false, false, false, false, false, false, false, false, false, false, false, false, false]) (by kernel_rfl)
        rw [hys] at e76
        rename_i hK
        subst ha
        refine hK _ _ ?_
        clear hf hoff hys hR H7 HO7 HW7 HL7 CQ HQ7 hq8
        simp only [fillFrom, e76, Nat.zero_add, Nat.reduceAdd]
        go_wp2_with fail
        go_loopw [11] (fun i wr => ∃ (k : Nat), k ≤ n ∧ i = .int .i64 (k : Int) ∧ KpR w j g x w6.heap.size Q A7 n c7 wr) (fun i _ => n - (intOf i).toNat)
        case atStart => exact ⟨0, by omega, rfl, H8.out, c8, ⟨cur7, HQ8.out⟩, l, HO8.out⟩
        case round =>
          obtain ⟨k, hk, rfl, hM, cq, ⟨cur, hcur⟩, xs, hO⟩ := hrel
          have HM := Lib.hid hM
          have HCQ := Lib.hid hcur
          clear hM H8 HO8 c8 hcur HQ8
          by_cases hlt2 : k < n
          · obtain ⟨R, rfl, hR, ⟨b, hcell⟩, hfrz, ⟨C, hC⟩, hset⟩ := own_set hO hlt2
            have HSET := Lib.hid hset
            have HCC := Lib.hid hC
            have hk0 : (0 : Int) ≤ (k : Int) := Int.natCast_nonneg _
            have hk1 : (k : Int) < (n : Int) := by omega
            have hw6 := HM.out.b.size
            have hQR : Q ≠ R := tag_ne HCQ.out HCC.out (by decide)
            clear hset hC hO
            go_wp2_with fail
            go_roundw
            case rel =>
              obtain ⟨xs', hx'⟩ := HSET.out 238
              exact ⟨k + 1, by omega, by go_num, HM.out.put5 HCC.out (by omega) _, set_other cq hQR, ⟨cur, (Below.heap_setCell _ _ _ _ hQR).trans HCQ.out⟩, xs', hx'⟩
            case measure => simp [intOf]; omega
          · clear hO
            go_wp2_with fail
            refine (jend_jm HM.out).mono ?_
            rintro e w8 ⟨rfl, rfl⟩
            have HOP := Lib.hid (open_has HM.out HHAS.out hup hbu)
            rw [hfr, hto, hcn] at HOP
            go_wp2_with fail
            refine HOP.out.mono ?_
            rintro e w9 ⟨j9, B9, C9, rfl, -, -, hF9, hb9⟩
            obtain ⟨Q9, A9, c9, rfl, hQ9, hcell, hown9, hC9, -⟩ := frames_one hF9
            have H9 := Lib.hid (HM.out.below hb9)
            have HO9 := Lib.hid (Hold.of_own hown9).drew
            have HL9 := Lib.hid ((HL.out.below HM.out.b).below hb9).drew
            rw [hll.out] at hcell HO9
            have CQ : Hid (w9.drew.cell? ⟨Q9, 0, none⟩ = some (.slice A9 n c9)) := Lib.hid hcell
            clear hF9 hb9 HM HOP hown9 hcell
            go_wp2_with fail
            refine wp_region_steps (onF true Q9 C9 A9 n c9 A n c l) (fun w w' => Below w.heap.size w w') (by kernel_rfl) (by kernel_rfl) (fun w => Below.refl _ _) (fun _ _ _ h k => h.trans (k.mono h.size)) (fun i v w w' h _ => onF_mono i v w w' h) ?_ ?_
            · refine ⟨?_, ?_, ?_, ?_, ?_, ?_, ?_, ?_, ?_, ?_, ?_, ?_, ?_, ?_, ?_, ?_, ?_, trivial⟩
              · intro a W hR hoff hd
                left
                refine ⟨rfl, ?_⟩
                have e0 : a.tmps.getD 6 undef = .int .i64 0 := hoff.slot 6 (no_dst (by kernel_rfl))
                go_simp
                exact ⟨_, rfl, rfl, Below.refl _ _⟩
              · intro a W hR hoff hd
                left
                refine ⟨rfl, ?_⟩
                have e0 : a.tmps.getD 98 undef = .int .i64 0 := hd 0 _ rfl rfl
                go_simp
                exact ⟨_, rfl, rfl, Below.refl _ _⟩
              · intro a W hR hoff hd
                left
                refine ⟨rfl, ?_⟩
                have e0 : a.tmps.getD 99 undef = .bool true := hd 1 _ rfl rfl
                go_simp
                exact ⟨_, rfl, rfl, Below.refl _ _⟩
              · intro a W hR hoff hd
                left
                have eg : a.tmps.getD 100 undef = .bool true := hd 2 _ rfl rfl
                refine ⟨wanted_of (ops := _) (j := 2) (b := true) rfl rfl rfl eg, ?_⟩
                clear eg
                have e0 : a.tmps.getD 10 undef = .slice (some ⟨Q9, 0, none⟩) 1 C9 := hoff.slot 10 (no_dst (by kernel_rfl))
                go_simp
                exact ⟨_, rfl, rfl, Below.refl _ _⟩
              · intro a W hR hoff hd
                left
                have eg : a.tmps.getD 100 undef = .bool true := hd 2 _ rfl rfl
                refine ⟨wanted_of (ops := _) (j := 2) (b := true) rfl rfl rfl eg, ?_⟩
                clear eg
                have e0 : a.tmps.getD 101 undef = .slice (some ⟨Q9, 0, none⟩) 1 C9 := hd 3 _ rfl rfl
                go_simp
                exact ⟨_, rfl, rfl, Below.refl _ _⟩
              · intro a W hR hoff hd
                left
                have eg : a.tmps.getD 100 undef = .bool true := hd 2 _ rfl rfl
                refine ⟨wanted_of (ops := _) (j := 2) (b := true) rfl rfl rfl eg, ?_⟩
                clear eg
                have e0 : a.tmps.getD 102 undef = .int .i64 1 := hd 4 _ rfl rfl
                go_simp
                exact ⟨_, rfl, rfl, Below.refl _ _⟩
              · intro a W hR hoff hd
                left
                refine ⟨rfl, ?_⟩
                have e0 : a.tmps.getD 100 undef = .bool true := hd 2 _ rfl rfl
                have e1 : a.tmps.getD 103 undef = .bool true := hd 5 _ rfl rfl
                go_simp
                exact ⟨_, rfl, rfl, Below.refl _ _⟩
              · intro a W hR hoff hd
                left
                refine ⟨rfl, ?_⟩
                have e0 : a.tmps.getD 104 undef = .bool true := hd 6 _ rfl rfl
                go_simp
                exact ⟨_, rfl, rfl, Below.refl _ _⟩
              · intro a W hR hoff hd
                left
                have eg : a.tmps.getD 105 undef = .bool true := hd 7 _ rfl rfl
                refine ⟨wanted_of (ops := _) (j := 7) (b := true) rfl rfl rfl eg, ?_⟩
                clear eg
                have e0 : a.tmps.getD 10 undef = .slice (some ⟨Q9, 0, none⟩) 1 C9 := hoff.slot 10 (no_dst (by kernel_rfl))
                go_simp
                exact ⟨_, rfl, rfl, Below.refl _ _⟩
              · intro a W hR hoff hd
                left
                have eg : a.tmps.getD 105 undef = .bool true := hd 7 _ rfl rfl
                refine ⟨wanted_of (ops := _) (j := 7) (b := true) rfl rfl rfl eg, ?_⟩
                clear eg
                have e0 : a.tmps.getD 106 undef = .slice (some ⟨Q9, 0, none⟩) 1 C9 := hd 8 _ rfl rfl
                have hC1 := hC9
                go_simp
                exact ⟨_, rfl, rfl, Below.refl _ _⟩
              · intro a W hR hoff hd
                left
                have eg : a.tmps.getD 105 undef = .bool true := hd 7 _ rfl rfl
                refine ⟨wanted_of (ops := _) (j := 7) (b := true) rfl rfl rfl eg, ?_⟩
                clear eg
                have e0 : a.tmps.getD 107 undef = .pointer (some ⟨Q9, 0, none⟩) := hd 9 _ rfl rfl
                have cl := cell_later hR CQ.out
                go_simp
                exact ⟨_, rfl, rfl, Below.refl _ _⟩
              · intro a W hR hoff hd
                left
                have eg : a.tmps.getD 105 undef = .bool true := hd 7 _ rfl rfl
                refine ⟨wanted_of (ops := _) (j := 7) (b := true) rfl rfl rfl eg, ?_⟩
                clear eg
                have e0 : a.tmps.getD 108 undef = .slice A9 n c9 := hd 10 _ rfl rfl
                have cv := conv_hold ((HO9.out).below hR)
                go_simp
                exact ⟨_, rfl, rfl, Below.refl _ _⟩
              · intro a W hR hoff hd
                left
                have eg : a.tmps.getD 105 undef = .bool true := hd 7 _ rfl rfl
                refine ⟨wanted_of (ops := _) (j := 7) (b := true) rfl rfl rfl eg, ?_⟩
                clear eg
                have e0 : a.tmps.getD 0 undef = .slice A n c := hoff.slot 0 (no_dst (by kernel_rfl))
                go_simp
                exact ⟨_, rfl, rfl, Below.refl _ _⟩
              · intro a W hR hoff hd
                left
                have eg : a.tmps.getD 105 undef = .bool true := hd 7 _ rfl rfl
                refine ⟨wanted_of (ops := _) (j := 7) (b := true) rfl rfl rfl eg, ?_⟩
                clear eg
                have e0 : a.tmps.getD 110 undef = .slice A n c := hd 12 _ rfl rfl
                have cv := conv_hold ((HL9.out).below hR)
                go_simp
                exact ⟨_, rfl, rfl, Below.refl _ _⟩
              · intro a W hR hoff hd
                left
                have eg : a.tmps.getD 105 undef = .bool true := hd 7 _ rfl rfl
                refine ⟨wanted_of (ops := _) (j := 7) (b := true) rfl rfl rfl eg, ?_⟩
                clear eg
                have e0 : a.tmps.getD 109 undef = .string ⟨l.toArray⟩ := hd 11 _ rfl rfl
                have e1 : a.tmps.getD 111 undef = .string ⟨l.toArray⟩ := hd 13 _ rfl rfl
                go_simp
                exact ⟨_, rfl, rfl, Below.refl _ _⟩
              · intro a W hR hoff hd
                left
                refine ⟨rfl, ?_⟩
                have e0 : a.tmps.getD 105 undef = .bool true := hd 7 _ rfl rfl
                have e1 : a.tmps.getD 112 undef = .bool true := hd 14 _ rfl rfl
                go_simp
                exact ⟨_, rfl, rfl, Below.refl _ _⟩
              · intro a W hR hoff hd
                left
                refine ⟨rfl, ?_⟩
                have e0 : a.tmps.getD 113 undef = .bool true := hd 15 _ rfl rfl
                go_simp
                exact ⟨_, rfl, rfl, Below.refl _ _⟩
            · intro a W hR hoff hf
              have e2 : a.tmps.getD 2 undef = .bool true := hf 16 _ rfl
              have H8 := Lib.hid (H9.out.drew.below hR)
              obtain ⟨ys, hys, ha⟩ := off_form hoff (mask := [false, false, true, false, false, false, false, false, false, false, false, false, false, false, false, false, false, false, false, false, false, false, false, false, false, false, false, false, false, false, false, false, false, false, false, false, false, false, false, false, false, false, false, false, false, false, false, false, false, false, false, false, false, false, false, false, false, false, false, false, false, false, false, false, false, false, false, false, false, false, false, false, false, false, false, false, false, false, false, false, false, false, false, false, false, false, false, false, false, false, false, false, false, false, false, false, false, false, true, true, true, true, true, true, true, true, true, true, true, true, true, true, true, true]) (by kernel_rfl)
              rw [hys] at e2
              rename_i hK
              subst ha
              refine hK _ _ ?_
              clear hf hoff hys hR H9 HO9 HL9 CQ
              simp only [fillFrom, e2, Nat.zero_add, Nat.reduceAdd]
              go_wp2_with fail
              go_ret
              exact ⟨rfl, H8.out.b⟩
end Go.Proofs.Ytkghjgpeobacjaa
