/-
  What is proved: what the document's Open answers. Conditions: the document's disk lies in memory as it must, numbers are whole numbers of 64 bits.
-/
import Derived.Test.YtkghjgpeobacjaaRsp
import Derived.Test.YtkghjgpeobacjaaRfb
import Derived.Test.YtkghjgpeobacjaaJo
namespace Go.Proofs.Ytkghjgpeobacjaa
open Go.RowKit

/-- the document's journal in memory -/
def RJn (w : World) (n m : Nat) (fr to en cn : Int) : Prop := w.heap[n]? = some (.cells #[.pointer (some ⟨m, 0, none⟩), .int .i64 fr, .int .i64 to, .int .i64 en, .int .i64 cn] 44 (0, 0))
theorem rjn_cells {w : World} {n m : Nat} {f t e c : Int} (h : RJn w n m f t e c) : w.cell? ⟨n, 0, none⟩ = some (.pointer (some ⟨m, 0, none⟩)) ∧ w.cell? ⟨n, 1, none⟩ = some (.int .i64 f) ∧ w.cell? ⟨n, 2, none⟩ = some (.int .i64 t) ∧ w.cell? ⟨n, 3, none⟩ = some (.int .i64 e) ∧ w.cell? ⟨n, 4, none⟩ = some (.int .i64 c) ∧ ∀ x, w.frozen? ⟨n, x, none⟩ = false := by
  unfold RJn at h
  refine ⟨?_, ?_, ?_, ?_, ?_, fun x => by simp [World.frozen?, h]⟩
  · rw [cell_of_row w n 0 _ 44 (0, 0) h]; rfl
  · rw [cell_of_row w n 1 _ 44 (0, 0) h]; rfl
  · rw [cell_of_row w n 2 _ 44 (0, 0) h]; rfl
  · rw [cell_of_row w n 3 _ 44 (0, 0) h]; rfl
  · rw [cell_of_row w n 4 _ 44 (0, 0) h]; rfl
theorem rjn_new (w : World) (m : Nat) (f t e c : Int) (k : Nat) (hk : k = w.heap.size) : RJn (w.alloc (.cells #[.pointer (some ⟨m, 0, none⟩), .int .i64 f, .int .i64 t, .int .i64 e, .int .i64 c] 44)) k m f t e c := heap_at _ _ _ hk
def RGotJ (w : World) (m : Nat) (fr to en cn : Int) (fs : List (List UInt8)) (e : Ending) (w' : World) : Prop :=
  ∃ n B C, e = .returned (.tuple #[.pointer (some ⟨n, 0, none⟩), .slice B fs.length C, .int .i64 0]) ∧ w.heap.size ≤ n ∧ RJn w' n m fr to en cn ∧ Frames w.heap.size w' fs (.slice B fs.length C) ∧ Below w.heap.size w w'
section
variable {w : World} {m mp : Nat} {q : Option Nat} {bs : List RB} {s : D} {u : Nat}
theorem Rk.cells04 (h : Rk w m mp q bs s u) : w.cell? ⟨m, 0, none⟩ = some (.int .i64 (s.last.length : Int)) ∧ w.cell? ⟨m, 4, none⟩ = some (.bool (decide (s.left = 0))) := by
  obtain ⟨A, c, n, Dm, hm, _⟩ := h.form
  obtain ⟨c0, _, _, _, c4, _⟩ := five_cells hm
  exact ⟨c0, c4⟩

set_option maxRecDepth 100000 in
set_option maxHeartbeats 1000000 in
theorem ropen_arg (h : Rk w m mp q bs s u) (fr to en cn : Int) (hb : s.badArea fr to) :
    Calls Try.prog 11 #[.pointer (some ⟨m, 0, none⟩), .int .i64 fr, .int .i64 to, .int .i64 en, .int .i64 cn] w (NoJ 1 w) := by
  obtain ⟨c0, c4⟩ := h.cells04
  clear h
  unfold D.badArea at hb
  generalize s.last.length = z at *
  by_cases ha : fr < 0
  · clear hb
    go_enter Try.func11, Try.ntmps11
    go_wp2_with fail
    go_ret3
    exact ⟨rfl, Below.refl _ _⟩
  · by_cases hc : (z : Int) < to
    · clear hb
      go_enter Try.func11, Try.ntmps11
      go_wp2_with fail
      go_ret3
      exact ⟨rfl, Below.refl _ _⟩
    · have hd : to < fr := by omega
      clear hb
      go_enter Try.func11, Try.ntmps11
      go_wp2_with fail
      go_ret3
      exact ⟨rfl, Below.refl _ _⟩

set_option maxRecDepth 100000 in
set_option maxHeartbeats 1000000 in
theorem ropen_end (h : Rk w m mp q bs s u) (fr to en cn : Int) (h0 : 0 ≤ fr) (h1 : fr ≤ to) (h2 : to ≤ s.last.length) (hb : en < 0 ∨ 0 ≤ en ∧ (to - fr) * 64 < en) :
    Calls Try.prog 11 #[.pointer (some ⟨m, 0, none⟩), .int .i64 fr, .int .i64 to, .int .i64 en, .int .i64 cn] w (NoJ 52 w) := by
  have hmost := h.ok.most
  obtain ⟨c0, c4⟩ := h.cells04
  clear h
  generalize s.last.length = z at *
  rcases hb with hb | ⟨hb0, hb⟩
  · go_enter Try.func11, Try.ntmps11
    go_wp2_with fail
    go_ret3
    exact ⟨rfl, Below.refl _ _⟩
  · go_enter Try.func11, Try.ntmps11
    go_wp2_with fail
    go_ret3
    exact ⟨rfl, Below.refl _ _⟩

set_option maxRecDepth 100000 in
set_option maxHeartbeats 1000000 in
theorem ropen_down (h : Rk w m mp q bs s u) (fr to en cn : Int) (h0 : 0 ≤ fr) (h1 : fr ≤ to) (h2 : to ≤ s.last.length) (h5 : 0 ≤ en) (h6 : en ≤ (to - fr) * 64) (hl : s.left = 0) :
    Calls Try.prog 11 #[.pointer (some ⟨m, 0, none⟩), .int .i64 fr, .int .i64 to, .int .i64 en, .int .i64 cn] w (NoJ 32 w) := by
  have hmost := h.ok.most
  obtain ⟨c0, c4⟩ := h.cells04
  have hd : decide (s.left = 0) = true := by simp [hl]
  rw [hd] at c4
  clear h hd
  generalize s.last.length = z at *
  go_enter Try.func11, Try.ntmps11
  go_wp2_with fail
  go_ret3
  exact ⟨rfl, Below.refl _ _⟩

set_option maxRecDepth 100000 in
set_option maxHeartbeats 1000000 in
theorem ropen_up (h : Rk w m mp q bs s u) (fr to en cn : Int) (k n : Nat) (hk : fr = (k : Int)) (hn : en = (n : Int)) (h1 : fr ≤ to) (h2 : to ≤ s.last.length) (h6 : en ≤ (to - fr) * 64) (hl : s.left ≠ 0) (hbs : bs.length ≤ 1048576)
    (Q : Ending → World → Prop) (hno : ((splitOf (s.area k n)).isSome = true → ((((splitOf (s.area k n)).getD []).length : Int) ≠ cn)) → ∀ e w', NoJ 52 w e w' → Q e w')
    (hyes : (splitOf (s.area k n)).isSome = true → ((((splitOf (s.area k n)).getD []).length : Int) = cn) → ∀ e w', RGotJ w m fr to en cn ((splitOf (s.area k n)).getD []) e w' → Q e w') :
    Calls Try.prog 11 #[.pointer (some ⟨m, 0, none⟩), .int .i64 fr, .int .i64 to, .int .i64 en, .int .i64 cn] w Q := by
  have hmost := h.ok.most
  obtain ⟨c0, c4⟩ := h.cells04
  have hd : decide (s.left = 0) = false := by simp [hl]
  rw [hd] at c4
  have HNO := Lib.hid hno
  have HYES := Lib.hid hyes
  have hfs : ((splitOf (s.area k n)).getD []).length ≤ 1099511627776 := by
    cases hs : splitOf (s.area k n) with
    | none => simp
    | some fs =>
      have := splitOf_count hs
      have : (s.area k n).length ≤ n := by unfold D.area; simp only [List.length_take]; omega
      simp only [Option.getD_some]
      omega
  have HRD : Hid (Calls Try.prog 35 #[.pointer (some ⟨m, 0, none⟩), .int .i64 fr, .int .i64 en] w (BytesPost w (s.area k n) n)) := Lib.hid (by
    subst hk hn
    exact rbytes_any w m mp q bs s u h k n ((n + 63) / 64) rfl (by omega) hbs)
  clear h hno hyes hd
  have h0 : 0 ≤ fr := by omega
  have h5 : 0 ≤ en := by omega
  have hn1 : n ≤ 4194304 := by omega
  have HST : Hid (∀ A c W, Hold W A n c (s.area k n) → Calls Try.prog 34 #[.slice A n c] W (RSPost W (splitOf (s.area k n)))) := Lib.hid fun A c W h => rsplit_any A n c _ W h (by omega)
  generalize s.last.length = z at *
  generalize splitOf (s.area k n) = o at *
  clear hk hn
  go_enter Try.func11, Try.ntmps11
  go_wp2_with fail
  refine HRD.out.mono ?_
  rintro e w1 ⟨A, c, rfl, ho1, hb1⟩
  have HH := Lib.hid (Hold.of_own ho1)
  have HB1 := Lib.hid hb1
  clear ho1 hb1
  go_wp2_with fail
  refine (HST.out A c w1 HH.out).mono ?_
  rintro e w2 ⟨B, C, rfl, hfr, hb2⟩
  have HB2 := Lib.hid (HB1.out.trans (hb2.mono HB1.out.size))
  have HFR := Lib.hid (hfr.mono HB1.out.size)
  clear hb2 hfr HB1
  generalize o.getD [] = fs at *
  generalize o.isSome = ok at *
  cases ok with
  | false =>
    go_wp2_with fail
    go_ret3
    exact HNO.out (fun h => by cases h) _ _ ⟨rfl, HB2.out⟩
  | true =>
    by_cases hcn : (fs.length : Int) = cn
    · go_wp2_with fail
      go_ret3
      exact HYES.out trivial hcn _ _ ⟨_, B, C, rfl, HB2.out.size, rjn_new _ _ _ _ _ _ _ rfl, HFR.out.below ((Below.refl _ _).alloc (Nat.le_refl _) _), HB2.out.alloc HB2.out.size _⟩
    · go_wp2_with fail
      go_ret3
      exact HNO.out (fun _ => hcn) _ _ ⟨rfl, HB2.out⟩
def ROpenPost (w : World) (m : Nat) (s : D) (fr to en cn : Int) (e : Ending) (w' : World) : Prop :=
  (s.openErr fr to en cn = 0 → RGotJ w m fr to en cn (s.openFs fr en) e w') ∧ (s.openErr fr to en cn ≠ 0 → NoJ (s.openErr fr to en cn) w e w')
theorem ropen_any (h : Rk w m mp q bs s u) (fr to en cn : Int) (hbs : bs.length ≤ 1048576) :
    Calls Try.prog 11 #[.pointer (some ⟨m, 0, none⟩), .int .i64 fr, .int .i64 to, .int .i64 en, .int .i64 cn] w (ROpenPost w m s fr to en cn) := by
  by_cases ha : s.badArea fr to
  · have e : s.openErr fr to en cn = 1 := by unfold D.openErr; rw [if_pos ha]
    refine (ropen_arg h fr to en cn ha).mono fun x w' hp => ?_
    unfold ROpenPost
    rw [e]
    exact ⟨fun h => by omega, fun _ => hp⟩
  · by_cases hb : en < 0 ∨ to * 64 - fr * 64 < en
    · have e : s.openErr fr to en cn = 52 := by unfold D.openErr; rw [if_neg ha, if_pos hb]
      unfold D.badArea at ha
      refine (ropen_end h fr to en cn (by omega) (by omega) (by omega) (by omega)).mono fun x w' hp => ?_
      unfold ROpenPost
      rw [e]
      exact ⟨fun h => by omega, fun _ => hp⟩
    · by_cases hl : s.left = 0
      · have e : s.openErr fr to en cn = 32 := by unfold D.openErr; rw [if_neg ha, if_neg hb, if_pos hl]
        unfold D.badArea at ha
        refine (ropen_down h fr to en cn (by omega) (by omega) (by omega) (by omega) (by omega) hl).mono fun x w' hp => ?_
        unfold ROpenPost
        rw [e]
        exact ⟨fun h => by omega, fun _ => hp⟩
      · have ha' := ha
        unfold D.badArea at ha
        refine ropen_up h fr to en cn fr.toNat en.toNat (by omega) (by omega) (by omega) (by omega) (by omega) hl hbs _ (fun hc x w' hp => ?_) (fun hc1 hc2 x w' hp => ?_)
        · have e : s.openErr fr to en cn = 52 := by unfold D.openErr; rw [if_neg ha', if_neg hb, if_neg hl, if_neg (fun h => hc h.1 h.2)]
          unfold ROpenPost
          rw [e]
          exact ⟨fun h => by omega, fun _ => hp⟩
        · have e : s.openErr fr to en cn = 0 := by unfold D.openErr; rw [if_neg ha', if_neg hb, if_neg hl, if_pos ⟨hc1, hc2⟩]
          unfold ROpenPost
          rw [e]
          exact ⟨fun _ => hp, fun h => absurd rfl h⟩
end
end Go.Proofs.Ytkghjgpeobacjaa
