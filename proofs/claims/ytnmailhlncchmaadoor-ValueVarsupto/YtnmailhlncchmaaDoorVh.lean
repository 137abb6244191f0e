/-
  What is proved: contracts of the document's Next and Bad. Conditions: those in each statement.
-/
import Derived.Test.YtnmailhlncchmaaDoorVe
import Derived.Test.YtnmailhlncchmaaDoorSsb
import Derived.Deep.LoopGhost
namespace Go.Proofs.YtnmailhlncchmaaDoor
open Go.RowKit

/-- the byte at a place -/
def bt (s : ByteArray) (k : Nat) : Nat := (s.data.toList.getD k 0).toNat
theorem bt_at (s : ByteArray) (k : Nat) (h : k < s.size) : s[k].toNat = bt s k := by unfold bt; rw [getD_at s k h]
theorem bt_lt (s : ByteArray) (k : Nat) : bt s k < 256 := by unfold bt; exact UInt8.toNat_lt _
/-- the number so far, of n bytes -/
def pd (s : ByteArray) (k n : Nat) : Nat → Nat
  | 0 => 0
  | 1 => if n = 1 then bt s k else bt s k % 2 ^ (7 - n)
  | i + 2 => pd s k n (i + 1) * 64 + bt s (k + (i + 1)) % 64
theorem pd_first1 (s : ByteArray) (k : Nat) : pd s k 1 1 = bt s k := by unfold pd; rw [if_pos rfl]
theorem pd_first (s : ByteArray) (k n : Nat) (h : n ≠ 1) : pd s k n 1 = bt s k % 2 ^ (7 - n) := by unfold pd; rw [if_neg h]
theorem pd_next (s : ByteArray) (k n i : Nat) (h : 0 < i) : pd s k n (i + 1) = pd s k n i * 64 + bt s (k + i) % 64 := by
  cases i with
  | zero => omega
  | succ i => rfl
theorem pd_lt (s : ByteArray) (k n : Nat) : ∀ i, pd s k n i < 4 * 64 ^ i
  | 0 => by simp [pd]
  | 1 => by
    have hb := bt_lt s k
    unfold pd
    split
    · omega
    · have := Nat.mod_le (bt s k) (2 ^ (7 - n)); omega
  | i + 2 => by
    have := pd_lt s k n (i + 1)
    rw [pd_next s k n (i + 1) (by omega), Nat.pow_succ 64 (i + 1)]
    have : bt s (k + (i + 1)) % 64 < 64 := Nat.mod_lt _ (by omega)
    omega
theorem pd_lt3 (s : ByteArray) (k n i : Nat) (h : i ≤ 3) : pd s k n i < 1048576 + 1048576 := by
  have := pd_lt s k n i
  have h2 : 64 ^ i ≤ 64 ^ 3 := Nat.pow_le_pow_right (by omega) h
  omega
theorem decT_pd (s : ByteArray) (k n : Nat) : ∀ (j i : Nat), 0 < i → k + i + j ≤ s.size → decT (s.data.toList.drop (k + i)) j (pd s k n i : Int) = (pd s k n (i + j) : Int)
  | 0, i, _, _ => by cases s.data.toList.drop (k + i) <;> rfl
  | j + 1, i, hi, hk => by
    rw [nxAt_cons s (k + i) (by omega)]
    simp only [decT]
    have := decT_pd s k n j (i + 1) (by omega) (by omega)
    rw [show i + (j + 1) = i + 1 + j by omega, ← this, pd_next s k n i hi, bt_at s (k + i) (by omega)]
    rfl
theorem dec_pd (s : ByteArray) (k n : Nat) (hn : 1 ≤ n) (hk : k + n ≤ s.size) : dec (s.data.toList.drop k) n = (pd s k n n : Int) := by
  have h := decT_pd s k n (n - 1) 1 (by omega) (by omega)
  rw [show 1 + (n - 1) = n by omega] at h
  rw [← h, nxAt_cons s k (by omega)]
  simp only [dec]
  congr 1
  rw [bt_at s k (by omega)]
  unfold pd
  split <;> rfl
/-- nothing was met so far -/
def Nohit (s : ByteArray) (k n : Nat) : Prop := ∀ m, 1 ≤ m → m < n → ¬ hit (s.data.toList.drop k) m
theorem Nohit.more {s : ByteArray} {k n : Nat} (h : Nohit s k n) (hn : ¬ hit (s.data.toList.drop k) n) : Nohit s k (n + 1) := by
  intro m h1 h2
  by_cases e : m = n
  · subst e; exact hn
  · exact h m h1 (by omega)
theorem Nohit.done {s : ByteArray} {k n : Nat} (h : Nohit s k n) (hn : 5 ≤ n ∨ s.size - k < n) : nxAt s (k : Int) = (0, 0) := by
  unfold nxAt
  rw [if_neg (by omega)]
  exact nx_none (m := n) h (hn.imp id (fun h => by simp only [Int.toNat_natCast]; rw [List.length_drop, size_toList]; omega))
theorem nxAt_hit {s : ByteArray} {k n : Nat} (hn : 1 ≤ n) (hk : k + n ≤ s.size) (h : hit (s.data.toList.drop k) n) : nxAt s (k : Int) = ((pd s k n n : Int), n) := by
  unfold nxAt
  rw [if_neg (by omega), ← dec_pd s k n hn hk]
  exact nx_hit hn h
theorem ext_eq (s : ByteArray) (k n : Nat) : (s.extract k (k + n)).toList = (s.data.toList.drop k).take n := by
  rw [ByteArray.toList_eq, ByteArray.data_extract]
  simp
theorem hit_iff (s : ByteArray) (k n : Nat) (hn : 1 ≤ n) (hk : k + n ≤ s.size) : hit (s.data.toList.drop k) n ↔ put (pd s k n n : Int) = (s.data.toList.drop k).take n := by
  unfold hit
  rw [dec_pd s k n hn hk, List.length_drop, size_toList]
  exact ⟨fun h => h.2, fun h => ⟨by omega, h⟩⟩
def nR (w w' : World) : Prop := Below w.heap.size w w'
/-- what the operations of the line yield -/
def nF (s : ByteArray) (k n : Nat) (r : Int) (b : Bool) : Nat → Value → World → Prop
  | 0, v, _ => v = .int .i32 r
  | 1, v, w => ∃ A m c, v = .slice A m c ∧ Hold w A m c (put r)
  | 2, v, _ => v = .string ⟨(put r).toArray⟩
  | 3, v, _ => v = .string s
  | 4, v, _ | 5, v, _ => v = .int .i64 (k : Int)
  | 6, v, _ => v = .int .i64 (n : Int)
  | 7, v, _ => v = .int .i64 (k + n : Int)
  | 8, v, _ => v = .string (s.extract k (k + n))
  | _, v, _ => v = .bool b
theorem nF_mono {s : ByteArray} {k n : Nat} {r : Int} {b : Bool} : ∀ i v w w', nF s k n r b i v w → nR w w' → nF s k n r b i v w' := by
  intro i v w w' h hR
  unfold nF at *
  split at h
  all_goals first
    | exact h
    | (obtain ⟨A, m, c, e, hh⟩ := h; exact ⟨A, m, c, e, hh.below hR⟩)
set_option maxRecDepth 100000 in
set_option maxHeartbeats 4000000 in
theorem refNext_any (s : ByteArray) (x : Int) (w : World) (hs : s.size ≤ 140737488355328) :
    Calls Tryd.prog 43 #[.string s, .int .i64 x] w fun e w' => e = .returned (.tuple #[.int .i32 (nxAt s x).1, .int .i64 ((nxAt s x).2 : Int)]) ∧ Below w.heap.size w w' := by
  by_cases g1 : x < 0
  · have HV := Lib.hid (nxAt_out (s := s) (.inl g1))
    go_enter Tryd.func43, Tryd.ntmps43
    go_wp2
    go_ret2
    exact ⟨by rw [HV.out]; rfl, Below.refl _ _⟩
  by_cases g2 : (s.size : Int) ≤ x
  · have HV := Lib.hid (nxAt_out (s := s) (.inr g2))
    go_enter Tryd.func43, Tryd.ntmps43
    go_wp2
    go_ret2
    exact ⟨by rw [HV.out]; rfl, Below.refl _ _⟩
  obtain ⟨k, rfl⟩ := Int.eq_ofNat_of_zero_le (show 0 ≤ x by omega)
  have hk : k < s.size := by omega
  go_enter Tryd.func43, Tryd.ntmps43
  go_wp2
  go_loopg [6] 5 (fun kx v6 wr => ∃ n : Nat, v6 = .int .i64 (n : Int) ∧ 1 ≤ n ∧ n ≤ 5 ∧ 5 - n ≤ kx ∧ Hid (Nohit s k n) ∧ Hid (Below w.heap.size w wr))
  case atStart => exact ⟨1, rfl, Nat.le_refl _, by omega, by omega, Lib.hid (fun m h1 h2 => by omega), Lib.hid (Below.refl _ _)⟩
  case round =>
    obtain ⟨n, rfl, hn1, hn5, hkx, hNo, hB⟩ := hrel
    by_cases hlt : n ≤ 4 ∧ n ≤ s.size - k
    · obtain ⟨hn4, hnk⟩ := hlt
      have hnz : (n : Int) ≤ (s.size : Int) - (k : Int) := by omega
      go_wp2
      go_loop [7, 8] (fun a i => ∃ j : Nat, j ≤ n ∧ i = .int .i64 j ∧ a = .int .i32 ((pd s k n j : Nat) : Int)) (fun _ i => n - (intOf i).toNat)
      case atStart => exact ⟨0, Nat.zero_le _, rfl, rfl⟩
      case round =>
        obtain ⟨j, hjn, rfl, rfl⟩ := hrel
        by_cases hj : j < n
        · have hkj : k + j < s.size := by omega
          have hbt := bt_at s (k + j) hkj
          have hlt := bt_lt s (k + j)
          by_cases h0 : j = 0
          · subst h0
            have h00 : ¬ (0 : Int) < 0 := by omega
            simp only [Nat.add_zero] at hbt hlt hkj
            have HP1 := Lib.hid (pd_first1 s k)
            have HP := Lib.hid (pd_first s k n)
            have hz0 : pd s k n 0 = 0 := rfl
            rw [hz0]
            clear hz0
            generalize bt s k = y at *
            have hn : n = 1 ∨ n = 2 ∨ n = 3 ∨ n = 4 := by omega
            rcases hn with rfl | rfl | rfl | rfl
            · go_wp2
              go_round
              case rel => exact ⟨1, by omega, by go_num, by rw [HP1.out] <;> go_num⟩
              case measure => simp [intOf]
            · have HQ := HP.out (by omega)
              simp only [Nat.reduceSub, Nat.reducePow] at HQ
              have HQ := Lib.hid HQ
              go_wp2
              go_round
              case rel => exact ⟨1, by omega, by go_num, by rw [HQ.out] <;> go_num⟩
              case measure => simp [intOf]
            · have HQ := HP.out (by omega)
              simp only [Nat.reduceSub, Nat.reducePow] at HQ
              have HQ := Lib.hid HQ
              go_wp2
              go_round
              case rel => exact ⟨1, by omega, by go_num, by rw [HQ.out] <;> go_num⟩
              case measure => simp [intOf]
            · have HQ := HP.out (by omega)
              simp only [Nat.reduceSub, Nat.reducePow] at HQ
              have HQ := Lib.hid HQ
              go_wp2
              go_round
              case rel => exact ⟨1, by omega, by go_num, by rw [HQ.out] <;> go_num⟩
              case measure => simp [intOf]
          · have hpz : (0 : Int) < (j : Int) := by omega
            have hne : ¬ (j : Int) ≤ 0 := by omega
            have hX := pd_lt3 s k n j (by omega)
            have HP := Lib.hid (pd_next s k n j (by omega))
            generalize pd s k n j = p at *
            generalize bt s (k + j) = y at *
            go_wp2
            go_round
            case rel => exact ⟨j + 1, by omega, by go_num, by rw [HP.out] <;> go_num⟩
            case measure => simp [intOf]; omega
        · obtain rfl : j = n := by omega
          go_wp2
          obtain ⟨b, hb⟩ : ∃ b : Bool, b = decide (put ((pd s k j j : Nat) : Int) = (s.data.toList.drop k).take j) := ⟨_, rfl⟩
          have HBB : Hid (Value.bool (put ((pd s k j j : Nat) : Int) == (s.extract k (k + j)).toList) = .bool b) := Lib.hid (by
            rw [ext_eq, hb]
            congr 1
            rw [Bool.eq_iff_iff]
            simp)
          have HBD := Lib.hid hb
          clear hb
          have HIT := Lib.hid (hit_iff s k j hn1 (by omega))
          have HH := Lib.hid (nxAt_hit (s := s) (k := k) (n := j) hn1 (by omega))
          have HBW := hB
          have hX : pd s k j j < 2147483648 := by have := pd_lt s k j j; have h2 : 64 ^ j ≤ 64 ^ 4 := Nat.pow_le_pow_right (by omega) hn4; omega
          generalize pd s k j j = p at *
          obtain ⟨V, hV⟩ : ∃ V, V = wr.drew := ⟨_, rfl⟩
          have HBV := Lib.hid (show Below w.heap.size w V by rw [hV]; exact HBW.out.drew)
          refine wp_region_steps (nF s k j (p : Int) b) nR (by kernel_rfl) (by kernel_rfl) (fun w => Below.refl _ _) (fun _ _ _ h k => putR_trans h k) nF_mono ?_ ?_
          · refine ⟨?_, ?_, ?_, ?_, ?_, ?_, ?_, ?_, ?_, ?_, trivial⟩
            · intro a W hR hoff hd
              left
              refine ⟨rfl, ?_⟩
              have e0 : a.tmps.getD 7 undef = .int .i32 (p : Int) := hoff.slot 7 (no_dst (by kernel_rfl))
              go_simp
              exact ⟨_, rfl, rfl, Below.refl _ _⟩
            · intro a W hR hoff hd
              left
              refine ⟨rfl, ?_⟩
              have e0 : a.tmps.getD 57 undef = .int .i32 (p : Int) := hd 0 _ rfl rfl
              go_simp
              refine (refPut_any (p : Int) W).mono ?_
              rintro e W2 ⟨A, m, c, rfl, hh, hb⟩
              exact ⟨_, rfl, ⟨A, m, c, rfl, hh⟩, hb⟩
            · intro a W hR hoff hd
              left
              refine ⟨rfl, ?_⟩
              obtain ⟨A, m, c, e0, hh⟩ : ∃ A m c, a.tmps.getD 58 undef = .slice A m c ∧ Hold W A m c (put (p : Int)) := hd 1 _ rfl rfl
              have cv := conv_hold hh
              clear hh
              go_simp
              exact ⟨_, rfl, rfl, Below.refl _ _⟩
            · intro a W hR hoff hd
              left
              refine ⟨rfl, ?_⟩
              have e0 : a.tmps.getD 0 undef = .string s := hoff.slot 0 (no_dst (by kernel_rfl))
              go_simp
              exact ⟨_, rfl, rfl, Below.refl _ _⟩
            · intro a W hR hoff hd
              left
              refine ⟨rfl, ?_⟩
              have e0 : a.tmps.getD 1 undef = .int .i64 (k : Int) := hoff.slot 1 (no_dst (by kernel_rfl))
              go_simp
              exact ⟨_, rfl, rfl, Below.refl _ _⟩
            · intro a W hR hoff hd
              left
              refine ⟨rfl, ?_⟩
              have e0 : a.tmps.getD 1 undef = .int .i64 (k : Int) := hoff.slot 1 (no_dst (by kernel_rfl))
              go_simp
              exact ⟨_, rfl, rfl, Below.refl _ _⟩
            · intro a W hR hoff hd
              left
              refine ⟨rfl, ?_⟩
              have e0 : a.tmps.getD 6 undef = .int .i64 (j : Int) := hoff.slot 6 (no_dst (by kernel_rfl))
              go_simp
              exact ⟨_, rfl, rfl, Below.refl _ _⟩
            · intro a W hR hoff hd
              left
              refine ⟨rfl, ?_⟩
              have e0 : a.tmps.getD 62 undef = .int .i64 (k : Int) := hd 5 _ rfl rfl
              have e1 : a.tmps.getD 63 undef = .int .i64 (j : Int) := hd 6 _ rfl rfl
              have hw : IntKind.i64.wrap ((k : Int) + (j : Int)) = (k : Int) + (j : Int) := by rw [IntKind.wrap_i64]; omega
              go_simp
              exact ⟨_, rfl, rfl, Below.refl _ _⟩
            · intro a W hR hoff hd
              left
              refine ⟨rfl, ?_⟩
              have e0 : a.tmps.getD 60 undef = .string s := hd 3 _ rfl rfl
              have e1 : a.tmps.getD 61 undef = .int .i64 (k : Int) := hd 4 _ rfl rfl
              have e2 : a.tmps.getD 64 undef = .int .i64 (k + j : Int) := hd 7 _ rfl rfl
              have q1 : 0 ≤ (k : Int) + (j : Int) ∧ (k : Int) + (j : Int) ≤ (s.size : Int) := by omega
              have q2 : (k : Int) ≤ (k : Int) + (j : Int) := by omega
              have q3 : ((k : Int) + (j : Int)).toNat = k + j := by omega
              go_simp
              exact ⟨_, rfl, rfl, Below.refl _ _⟩
            · intro a W hR hoff hd
              left
              refine ⟨rfl, ?_⟩
              have e0 : a.tmps.getD 59 undef = .string ⟨(put (p : Int)).toArray⟩ := hd 2 _ rfl rfl
              have e1 : a.tmps.getD 65 undef = .string (s.extract k (k + j)) := hd 8 _ rfl rfl
              go_simp
              exact ⟨_, rfl, HBB.out, Below.refl _ _⟩
          · intro a W hR hoff hd
            rename_i hK hT
            have e66 : a.tmps.getD 66 undef = .bool b := hd 9 _ rfl
            rw [← hV] at hR
            have HBN := Lib.hid (HBV.out.trans (Below.mono hR HBV.out.size))
            obtain ⟨ys, hys, ha⟩ := off_form hoff (mask := [false, false, false, false, false, false, false, false, false, false, false, false, false, false, false, false, false, false, false, false, false, false, false, false, false, false, false, false, false, false, false, false, false, false, false, false, false, false, false, false, false, false, false, false, false, false, false, false, false, false, false, false, false, false, false, false, false, true, true, true, true, true, true, true, true, true, true, false, false]) (by kernel_rfl)
            rw [hys] at e66
            clear hd hoff hys
            subst ha
            simp only [fillFrom, e66, Nat.zero_add, Nat.reduceAdd]
            by_cases hc : b = true
            · subst hc
              have HE := Lib.hid (HH.out (HIT.out.2 (of_decide_eq_true HBD.out.symm)))
              refine hK _ _ ?_
              go_wp2
              go_ret2
              exact ⟨by rw [HE.out]; rfl, HBN.out⟩
            · obtain rfl : b = false := by simpa using hc
              have HE := Lib.hid (hNo.out.more (fun h => of_decide_eq_false HBD.out.symm (HIT.out.1 h)))
              refine hK _ _ ?_
              go_wp2
              go_roundg (5 - (j + 1))
              case measure => omega
              case rel => exact ⟨j + 1, by go_num, by omega, by omega, Nat.le_refl _, HE, HBN⟩
    · have HE := Lib.hid (hNo.out.done (by omega))
      by_cases h4 : n ≤ 4
      · have hnz : ¬ (n : Int) ≤ (s.size : Int) - (k : Int) := by omega
        go_wp2
        go_ret2
        exact ⟨by rw [HE.out]; rfl, hB.out⟩
      · go_wp2
        go_ret2
        exact ⟨by rw [HE.out]; rfl, hB.out⟩
end Go.Proofs.YtnmailhlncchmaaDoor
