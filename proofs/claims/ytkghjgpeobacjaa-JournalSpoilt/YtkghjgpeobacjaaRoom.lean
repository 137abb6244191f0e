/-
  What is proved: the walk of the law JournalRoom: for every number of sectors and all sizes it returns true and turns nothing that was there. Conditions: the number of sizes is within Go's own reach.
-/
import Derived.Test.YtkghjgpeobacjaaJk
namespace Go.Proofs.Ytkghjgpeobacjaa
open Go.RowKit

/-- a journal on a disk that is never armed, nothing waits -/
structure Calm0 (x : JS) : Prop where
  ok : x.Ok
  up : x.d.left = -1
  buf : x.d.buf = []
theorem Calm0.long {x : JS} (h : Calm0 x) {b : List UInt8} (hb : 1048576 < b.length) : x.err b = 3 ∧ x.app b = x := by
  refine ⟨by rw [JS.err_up (by rw [h.up]; decide), if_pos hb], ?_⟩
  unfold JS.app
  rw [if_pos hb]
theorem Calm0.full {x : JS} (h : Calm0 x) {b : List UInt8} (hb : b.length ≤ 1048576) (hf : 64 * (x.to - x.fr) < x.en + 16 + b.length) : x.err b = 51 ∧ x.app b = x := by
  refine ⟨by rw [JS.err_up (by rw [h.up]; decide), if_neg (by omega), if_pos hf], ?_⟩
  unfold JS.app
  rw [if_neg (by omega), if_pos hf]
theorem Calm0.fits {x : JS} (h : Calm0 x) {b : List UInt8} (hb : b.length ≤ 1048576) (hf : x.en + 16 + b.length ≤ 64 * (x.to - x.fr)) : x.err b = 0 ∧ Calm0 (x.app b) ∧ (x.app b).fr = x.fr ∧ (x.app b).to = x.to ∧ (x.app b).en = x.en + 16 + b.length ∧ (x.app b).cn = x.cn + 1 ∧ (x.app b).d.last.length = x.d.last.length := by
  have hu : x.d.left < 0 := by rw [h.up]; decide
  have e := JS.app_up hu b (by omega) (by omega)
  have hw : (x.wr b).left = x.d.left := appW_up hu _ _ _
  have hs := fSt_up (s := x.wr b) (by rw [hw]; exact hu)
  refine ⟨by rw [JS.err_up hu, if_neg (by omega), if_neg (by omega)], ⟨h.ok.app b, ?_, ?_⟩, ?_⟩
  · rw [e, hs]
    simp only
    rw [hw]
    exact h.up
  · rw [e, hs]
  · rw [e]
    exact ⟨rfl, rfl, rfl, rfl, x.wr_last b⟩
theorem Calm0.zero {n fr to : Nat} (h1 : fr ≤ to) (h2 : to ≤ n) : Calm0 ⟨newSt n, fr, to, 0, 0⟩ := ⟨⟨h1, by simpa [newSt] using h2, Nat.zero_le _, Nat.zero_le _⟩, rfl, rfl⟩

/-- '.slice A N C' reads as these numbers -/
def Ints (w : World) (A : Option Addr) (N : Nat) (xs : List Int) : Prop := xs.length = N ∧ (∀ x ∈ xs, -9223372036854775808 ≤ x ∧ x ≤ 9223372036854775807) ∧ (0 < N → ∃ b off, A = some ⟨b, off, none⟩ ∧ ∀ j (hj : j < xs.length), w.cell? ⟨b, off + j, none⟩ = some (.int .i64 xs[j]))
theorem Ints.at {w w' : World} {A : Option Addr} {N : Nat} {xs : List Int} (h : Ints w A N xs) (hb : Below w.heap.size w w') {k : Nat} (hk : k < N) : ∃ b off x, A = some ⟨b, off, none⟩ ∧ w'.cell? ⟨b, off + k, none⟩ = some (.int .i64 x) ∧ -9223372036854775808 ≤ x ∧ x ≤ 9223372036854775807 := by
  obtain ⟨b, off, e, hc⟩ := h.2.2 (by omega)
  have hk' : k < xs.length := by rw [h.1]; exact hk
  exact ⟨b, off, _, e, cell_later hb (hc k hk'), h.2.1 _ (List.getElem_mem hk')⟩
def RoomR (w : World) (j g n N : Nat) (lf i : Value) (wr : World) : Prop :=
  ∃ (k : Nat) (x : JS), k ≤ N ∧ i = .int .i64 (k : Int) ∧ lf = .int .i64 (64 * (n : Int) - (x.en : Int)) ∧ x.en ≤ 64 * n ∧ Calm0 x ∧ x.fr = 0 ∧ x.to = n ∧ JM w wr j g x

set_option maxRecDepth 100000 in
set_option maxHeartbeats 2000000 in
theorem journalRoom_walk (m : Nat) (A : Option Addr) (N C : Nat) (xs : List Int) (w : World) (h : Ints w A N xs) (hm : m < 256) (hN : N ≤ 140737488355328) :
    Calls Try.prog 6 #[.int .u8 (m : Int), .slice A N C] w fun e w' => e = .returned (.bool true) ∧ Below w.heap.size w w' := by
  have H := Lib.hid h
  clear h
  obtain ⟨n, hn⟩ : ∃ n : Nat, n = m % 20 := ⟨_, rfl⟩
  have hn' : (m : Int) % 20 = (n : Int) := by omega
  have hn20 : n < 20 := by omega
  have HN : Hid ((m : Int) % 20 = (n : Int)) := Lib.hid hn'
  have mk1 : ∀ W : World, (Instr.makeSlice 37 (.int .i64 1048577) (.int .i64 1048577)).run Try.prog W = .ok (.slice (some ⟨W.heap.size, 0, none⟩) 1048577 1048577) (W.alloc (.cells (zeroC 1048577) 5)) := fun W => make_zeros 1048577 W (by omega)
  clear hn hn'
  go_enter Try.func6, Try.ntmps6
  go_wp2_with fail
  refine (new_mine w w 20 (Below.refl _ _)).mono ?_
  rintro e w1 ⟨g, rfl, h1, _, _⟩
  have H1 : Hid (Mine w w1 g (newSt 20)) := h1
  clear h1
  rw [HN.out]
  go_wp2_with fail
  refine (open_zero H1.out 0 n (by omega) (by simp [newSt]; omega) (by decide) (by decide)).mono ?_
  rintro e w2 ⟨j, B, C2, rfl, h2, -⟩
  have H2 := Lib.hid h2
  clear h2 H1
  go_wp2_with fail
  refine (awake_any w2).mono ?_
  rintro e w3 ⟨rfl, hb3⟩
  have H3 := Lib.hid (H2.out.below hb3)
  clear H2 hb3
  go_wp2_with fail
  go_loopw [10, 11] (fun lf i wr => RoomR w j g n N lf i wr) (fun _ i _ => N - (intOf i).toNat)
  case atStart => exact ⟨0, _, by omega, rfl, by simp, Nat.zero_le _, Calm0.zero (Nat.zero_le _) (by omega), rfl, rfl, H3.out⟩
  case round =>
    obtain ⟨k, x, hk, rfl, rfl, hen, hx, hfr, hto, hM⟩ := hrel
    have HX := Lib.hid hx
    have HM := Lib.hid hM
    clear hx hM H3
    by_cases hlt : k < N
    · obtain ⟨b, off, z, rfl, hcell, hz1, hz2⟩ := H.out.at HM.out.b hlt
      have hk0 : (0 : Int) ≤ (k : Int) := Int.natCast_nonneg _
      have hk1 : (k : Int) < (N : Int) := by omega
      by_cases hneg : z < 0
      · go_wp2_with fail
        go_roundw
        case rel => exact ⟨k + 1, x, by omega, by go_num, rfl, hen, HX.out, hfr, hto, HM.out⟩
        case measure => simp [intOf]; omega
      · by_cases hbig : 2000 < z
        · go_wp2_with fail
          go_roundw
          case rel => exact ⟨k + 1, x, by omega, by go_num, rfl, hen, HX.out, hfr, hto, HM.out⟩
          case measure => simp [intOf]; omega
        · obtain ⟨s, rfl⟩ : ∃ s : Nat, z = (s : Int) := ⟨z.toNat, by omega⟩
          have mk2 : ∀ W : World, (Instr.makeSlice 37 (.int .i64 (s : Int)) (.int .i64 (s : Int))).run Try.prog W = .ok (.slice (some ⟨W.heap.size, 0, none⟩) s s) (W.alloc (.cells (zeroC s) 5)) := fun W => make_zeros s W (by omega)
          go_wp2_with fail
          refine (append_jm (HM.out.alloc _) HX.out.ok _ s s _ (Hold.zeros wr s _ rfl) (by omega) (by rw [HX.out.buf]; decide)).mono ?_
          rintro e w5 ⟨rfl, h5, -⟩
          by_cases hfit : x.en + 16 + s ≤ 64 * n
          · obtain ⟨f1, f2, f3, f4, f5, f6, f7⟩ := HX.out.fits (b := List.replicate s 0) (by simp; omega) (by rw [hfr, hto]; simpa using hfit)
            rw [f1]
            rw [List.length_replicate] at f5
            have H5 := Lib.hid h5
            have F2 := Lib.hid f2
            clear h5 f2 f1
            generalize x.app (List.replicate s 0) = y at *
            have g1 : (s : Int) + 16 ≤ 64 * (n : Int) - (x.en : Int) := by omega
            go_wp2_with fail
            refine (jend_jm H5.out).mono ?_
            rintro e w6 ⟨rfl, rfl⟩
            have g2 : (y.en : Int) = 64 * (n : Int) - (64 * (n : Int) - (x.en : Int) - (s : Int) - 16) := by omega
            go_wp2_with fail
            go_roundw
            case rel => exact ⟨k + 1, y, by omega, by go_num, by congr 1; omega, by omega, F2.out, by omega, by omega, H5.out⟩
            case measure => simp [intOf]; omega
          · obtain ⟨f1, f2⟩ := HX.out.full (b := List.replicate s 0) (by simp; omega) (by rw [hfr, hto]; simp; omega)
            rw [f1]
            rw [f2] at h5
            have H5 := Lib.hid h5
            clear h5 f1 f2
            have g1 : ¬ (s : Int) + 16 ≤ 64 * (n : Int) - (x.en : Int) := by omega
            have hw0 : x.d.buf.length = 0 := by rw [HX.out.buf]; rfl
            go_wp2_with fail
            refine (waits_mine H5.out.1).mono ?_
            rintro e w6 ⟨rfl, rfl⟩
            rw [hw0]
            go_wp2_with fail
            refine (jend_jm H5.out).mono ?_
            rintro e w6 ⟨rfl, rfl⟩
            have g2 : 64 * (n : Int) - (64 * (n : Int) - (x.en : Int)) = (x.en : Int) := by omega
            go_wp2_with fail
            go_roundw
            case rel => exact ⟨k + 1, x, by omega, by go_num, rfl, hen, HX.out, hfr, hto, H5.out⟩
            case measure => simp [intOf]; omega
    · go_wp2_with fail
      refine (append_jm (HM.out.alloc _) HX.out.ok _ 1048577 1048577 _ (Hold.zeros wr 1048577 _ rfl) (by omega) (by rw [HX.out.buf]; decide)).mono ?_
      rintro e w5 ⟨rfl, h5, -⟩
      rw [(HX.out.long (b := List.replicate 1048577 0) (by rw [List.length_replicate]; omega)).1]
      have H5 := Lib.hid h5
      clear h5
      go_wp2_with fail
      go_ret
      exact ⟨rfl, H5.out.b⟩
end Go.Proofs.Ytkghjgpeobacjaa
