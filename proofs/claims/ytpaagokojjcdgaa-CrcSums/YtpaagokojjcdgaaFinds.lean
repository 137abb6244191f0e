/-
  What is proved: the walk of the law CrcFinds: for all bytes, every place and every four bytes it returns true and turns nothing that was there. Conditions: the bytes' length is within Go's own reach.
-/
import Derived.Test.YtpaagokojjcdgaaAwake
import Derived.Laws.AppendOwnNone
import Derived.StillTailTactics
import Derived.ChangeKeysEq
import Derived.Deep.AppendLies
import Derived.IntWalk
namespace Go.Proofs.Ytpaagokojjcdgaa
open Go.RowKit

theorem Try.info5 : (Try.prog.info? 5).map (fun i => (i.zero, i.size, i.bytes)) = some (some (.int .u8 0), 1, 1) := by kernel_rfl
theorem own_form {w : World} {base : Nat} {v : Value} {n : Nat} {xs : List Value} (h : w.ownsRow base 5 1 v n xs) : ∃ A c, v = .slice A n c := by
  rcases h.2 with ⟨rfl, rfl⟩ | ⟨g, cap, cur, rfl, _⟩
  · exact ⟨_, _, rfl⟩
  · exact ⟨_, _, rfl⟩
/-- 'append(out, xs...)' of bytes, onto a row of the call's own, xs nil or not. -/
theorem wpList_append_hold {w : World} {ops : Array Oper} {rest : List Oper} {o : Oper} {a : Act} {Q : Exit → Act → World → Prop} (hgd : o.guard = none) (s x : Operand)
    (ho : o.op = .call { callee := .builtin .append, args := #[s, x], argTypes := #[27, 27] })
    (base : Nat) (v : Value) (n : Nat) (l : List UInt8) (hs : a.eval s = v) (hown : w.ownsRow base 5 1 v n (bv l))
    (A : Option Addr) (m c : Nat) (l2 : List UInt8) (hx : a.eval x = .slice A m c) (hh : Hold w A m c l2) (hbytes : n + m ≤ 140737488355328) (hbase : base ≤ w.heap.size)
    (h : ∀ A' c' w', w'.ownsRow base 5 1 (.slice A' (n + m) c') (n + m) (bv (l ++ l2)) → w.grownBy w' v.ownBlock → wpList Try.prog ops Q rest (a.put o.dst (.slice A' (n + m) c')) w') : wpList Try.prog ops Q (o :: rest) a w := by
  obtain ⟨i0, hi, hz0, hz1, hz2⟩ := info_parts Try.info5
  cases A with
  | none =>
    obtain ⟨rfl, rfl⟩ := hh.none_ rfl
    have hl : l2 = [] := List.eq_nil_of_length_eq_zero hh.1
    subst hl
    obtain ⟨A', c', rfl⟩ := own_form hown
    refine wpList_append_own_none hgd s x 27 ho base 5 i0 1 Try.underlying27 hi _ n (bv l) hs hown hx ?_
    simpa using h A' c' w (by simpa using hown) (World.grownBy.refl _ _)
  | some ad =>
    refine wpList_append_own w hgd s x 27 ho base 5 i0 (.int .u8 0) 1 1 Try.underlying27 hi hz0 hz1 hz2 rfl (by decide) v n (bv l) hs hown ad m c (bv l2) hx (by rw [bv_length, hh.1]; omega) (hh.cells ad rfl) (bv_one l2) (by unfold maxLen; omega) (by omega) hbase ?_
    intro v' w' hown' hgrow _
    obtain ⟨A', c', rfl⟩ := own_form hown'
    exact h A' c' w' (by rw [bv_append]; exact hown') hgrow

theorem box_cell {w w1 : World} {cs : Array Value} {t : TypeId} (b1 : Below (w.alloc (.cells cs t)).heap.size (w.alloc (.cells cs t)) w1) (j : Nat) {u : Value} (hj : cs[j]? = some u) : w1.cell? ⟨w.heap.size, j, none⟩ = some u :=
  cell_later b1 (by rw [cell_of_row _ w.heap.size j cs t (0, 0) (heap_alloc_new w _)]; exact hj)
theorem box_below {w w1 : World} {o : Obj} (b1 : Below (w.alloc o).heap.size (w.alloc o) w1) : Below w.heap.size w w1 :=
  ((Below.refl _ _).alloc (Nat.le_refl _) _).trans (b1.mono (by simp))

theorem four_eq (W : World) (a b c d : Int) : (Op.equalIn 10000 33 (.agg #[.int .u8 a, .int .u8 b, .int .u8 c, .int .u8 d]) (.agg #[.int .u8 0, .int .u8 0, .int .u8 0, .int .u8 0])).run Try.prog W = .ok (a == 0 && (b == 0 && (c == 0 && d == 0))) W := by
  obtain ⟨i0, hi, hz0, hz1, hz2⟩ := info_parts Try.info5
  have he : Try.prog.plainKey 5 = true := by kernel_rfl
  have hc : Try.prog.cellsOf 5 = 1 := by kernel_rfl
  have r4 : List.range 4 = [0, 1, 2, 3] := rfl
  rw [run_equalIn_array W 9999 _ _ Try.underlying33 hi, hc, r4]
  have q0 : (part 5 #[.int .u8 a, .int .u8 b, .int .u8 c, .int .u8 d] 0).run Try.prog W = .ok (.int .u8 a) W := run_part_plain W he rfl
  have q1 : (part 5 #[.int .u8 a, .int .u8 b, .int .u8 c, .int .u8 d] 1).run Try.prog W = .ok (.int .u8 b) W := run_part_plain W he rfl
  have q2 : (part 5 #[.int .u8 a, .int .u8 b, .int .u8 c, .int .u8 d] 2).run Try.prog W = .ok (.int .u8 c) W := run_part_plain W he rfl
  have q3 : (part 5 #[.int .u8 a, .int .u8 b, .int .u8 c, .int .u8 d] 3).run Try.prog W = .ok (.int .u8 d) W := run_part_plain W he rfl
  have z0 : (part 5 #[.int .u8 0, .int .u8 0, .int .u8 0, .int .u8 0] 0).run Try.prog W = .ok (.int .u8 0) W := run_part_plain W he rfl
  have z1 : (part 5 #[.int .u8 0, .int .u8 0, .int .u8 0, .int .u8 0] 1).run Try.prog W = .ok (.int .u8 0) W := run_part_plain W he rfl
  have z2 : (part 5 #[.int .u8 0, .int .u8 0, .int .u8 0, .int .u8 0] 2).run Try.prog W = .ok (.int .u8 0) W := run_part_plain W he rfl
  have z3 : (part 5 #[.int .u8 0, .int .u8 0, .int .u8 0, .int .u8 0] 3).run Try.prog W = .ok (.int .u8 0) W := run_part_plain W he rfl
  have eq : ∀ x y : Int, (Op.equalIn 9999 5 (.int .u8 x) (.int .u8 y)).run Try.prog W = .ok (x == y) W := fun x y => run_equalIn_int W 9998 5 .u8 .u8 x y Try.underlying5
  simp only [Op.eqItems, Nat.mul_one, Sem.run_bind, Sem.run_ite, Sem.run_pure, q0, q1, q2, q3, z0, z1, z2, z3, Result.andThen_ok, eq]
  cases a == 0 <;> cases b == 0 <;> cases c == 0 <;> cases d == 0 <;> simp
def allz (l : List UInt8) : Bool := l.all (· == 0)
theorem allz_snoc (l : List UInt8) (k : Nat) (h : k < l.length) : allz (l.take (k + 1)) = (allz (l.take k) && l[k] == 0) := by
  unfold allz
  rw [List.take_succ_eq_append_getElem h, List.all_append]
  simp only [List.all_cons, List.all_nil, Bool.and_true]
theorem allz_iff (l : List UInt8) : allz l = true ↔ ∀ b ∈ l, b = 0 := by simp [allz]
theorem mixed_get (l : List UInt8) (p : Nat) (bs : List UInt8) (k : Nat) (hp : p + k < l.length) : (mixed l p (bs.take k))[p + k]'(by rw [mixed_length]; exact hp) = l[p + k] := by
  have e : (bs.take k)[p + k - p]? = none := List.getElem?_eq_none (by simp; omega)
  simp only [mixed, List.getElem_mapIdx, e, Option.getD_none, UInt8.xor_zero, ite_self]
theorem bv_set (l : List UInt8) (j : Nat) (b : UInt8) : (bv l).set j (.int .u8 (b.toNat : Int)) = bv (l.set j b) := by
  simp [bv, List.map_set]
theorem found (l : List UInt8) (p : Nat) (bs : List UInt8) (hb : bs.length ≤ 4) (hp : p + bs.length ≤ l.length) : (((crc (mixed l p bs) : Nat) : Int) == ((crc l : Nat) : Int)) = allz bs := by
  rw [Bool.eq_iff_iff, allz_iff, ← crc_mixed l p bs hb hp, beq_iff_eq, Int.natCast_inj]
theorem grown_trans {w1 w2 w3 : World} {q : Option Nat} (h : w1.grownBy w2 q) (k : w2.grownBy w3 q) : w1.grownBy w3 q :=
  ⟨k.os.trans h.os, k.tape.trans h.tape, k.output.trans h.output, Nat.le_trans h.size k.size, fun b hb hne => (k.block b (Nat.lt_of_lt_of_le hb h.size) hne).trans (h.block b hb hne)⟩
theorem grown_drew {w1 w2 : World} {q : Option Nat} (h : w1.grownBy w2 q) : w1.grownBy w2.drew q := ⟨h.os, h.tape, h.output, h.size, h.block⟩

set_option maxHeartbeats 1000000 in
theorem crcFinds_walk (A : Option Addr) (n c : Nat) (l : List UInt8) (p : Int) (y0 y1 y2 y3 : UInt8) (w : World) (h : Hold w A n c l) (hn : n ≤ 140737488355328) (hp1 : -9223372036854775808 ≤ p) (hp2 : p ≤ 9223372036854775807) :
    Calls Try.prog 6 #[.slice A n c, .int .i64 p, .agg #[.int .u8 (y0.toNat : Int), .int .u8 (y1.toNat : Int), .int .u8 (y2.toNat : Int), .int .u8 (y3.toNat : Int)]] w fun e w' => e = .returned (.bool true) ∧ Below w.heap.size w w' := by
  have H := Lib.hid h
  clear h
  by_cases hneg : p < 0
  · go_enter Try.func6, Try.ntmps6
    go_wp2_with fail
    refine (awake_any _).mono ?_
    rintro e w1 ⟨rfl, b1'⟩
    have b1 := box_below b1'
    go_wp2_with fail
    refine (awake_any w1).mono ?_
    rintro e w2 ⟨rfl, b2⟩
    go_wp2
    go_ret
    exact ⟨rfl, b1.trans (b2.mono b1.size)⟩
  obtain ⟨m, rfl⟩ := Int.eq_ofNat_of_zero_le (show 0 ≤ p by omega)
  by_cases hbig : n ≤ m
  · go_enter Try.func6, Try.ntmps6
    go_wp2_with fail
    refine (awake_any _).mono ?_
    rintro e w1 ⟨rfl, b1'⟩
    have b1 := box_below b1'
    go_wp2_with fail
    refine (awake_any w1).mono ?_
    rintro e w2 ⟨rfl, b2⟩
    go_wp2
    go_ret
    exact ⟨rfl, b1.trans (b2.mono b1.size)⟩
  go_enter Try.func6, Try.ntmps6
  go_wp2_with fail
  refine (awake_any _).mono ?_
  rintro e w1 ⟨rfl, b1'⟩
  have b1 := box_below b1'
  have c0 : w1.cell? ⟨w.heap.size, 0, none⟩ = some (.int .u8 (y0.toNat : Int)) := box_cell b1' 0 rfl
  have c1 : w1.cell? ⟨w.heap.size, 1, none⟩ = some (.int .u8 (y1.toNat : Int)) := box_cell b1' 1 rfl
  have c2 : w1.cell? ⟨w.heap.size, 2, none⟩ = some (.int .u8 (y2.toNat : Int)) := box_cell b1' 2 rfl
  have c3 : w1.cell? ⟨w.heap.size, 3, none⟩ = some (.int .u8 (y3.toNat : Int)) := box_cell b1' 3 rfl
  have hq := fun (W : World) => four_eq W y0.toNat y1.toNat y2.toNat y3.toNat
  by_cases hz : y0.toNat = 0 ∧ y1.toNat = 0 ∧ y2.toNat = 0 ∧ y3.toNat = 0
  · have hq' : ∀ W : World, (Op.equalIn 10000 33 (.agg #[.int .u8 (y0.toNat : Int), .int .u8 (y1.toNat : Int), .int .u8 (y2.toNat : Int), .int .u8 (y3.toNat : Int)]) (.agg #[.int .u8 0, .int .u8 0, .int .u8 0, .int .u8 0])).run Try.prog W = .ok true W := by
      intro W
      rw [hq W]
      congr 1
      simp
      omega
    clear hq hz
    go_wp2_with fail
    refine (awake_any w1).mono ?_
    rintro e w2 ⟨rfl, b2⟩
    go_wp2
    go_ret
    exact ⟨rfl, b1.trans (b2.mono b1.size)⟩
  have hq' : ∀ W : World, (Op.equalIn 10000 33 (.agg #[.int .u8 (y0.toNat : Int), .int .u8 (y1.toNat : Int), .int .u8 (y2.toNat : Int), .int .u8 (y3.toNat : Int)]) (.agg #[.int .u8 0, .int .u8 0, .int .u8 0, .int .u8 0])).run Try.prog W = .ok false W := by
    intro W
    rw [hq W]
    congr 1
    simp
    omega
  clear hq hz
  by_cases hlong : 1048576 < n
  · go_wp2_with fail
    refine (awake_any w1).mono ?_
    rintro e w2 ⟨rfl, b2⟩
    go_wp2
    go_ret
    exact ⟨rfl, b1.trans (b2.mono b1.size)⟩
  have hs1 : w.heap.size < w1.heap.size := by have := b1'.size; simp at this; omega
  have H1 := Lib.hid (H.out.below b1)
  have hll := Lib.hid H.out.1
  have hcells : ∀ k (hk : k < [y0, y1, y2, y3].length), w1.cell? ⟨w.heap.size, k, none⟩ = some (.int .u8 ([y0, y1, y2, y3][k].toNat : Int)) := by
    intro k hk
    match k, hk with
    | 0, _ => exact c0
    | 1, _ => exact c1
    | 2, _ => exact c2
    | 3, _ => exact c3
  have HB := Lib.hid hcells
  have hbl : Hid ([y0, y1, y2, y3].length = 4) := Lib.hid rfl
  clear hcells b1'
  go_wp2_with (at_builtin; refine wpList_append_hold rfl (.tmp 33) (.tmp 34) rfl w1.heap.size (.slice none 0 0) 0 [] rfl (World.ownsRow_nil _ _ _ _) A n c l rfl H1.out (by omega) (Nat.le_refl _) ?_; intro Am cm w2 hown2 hgrow2; simp only [Nat.zero_add, List.nil_append] at hown2; have b2' : Below w1.heap.size w1 w2 := (Below.refl _ _).grown hgrow2 (Nat.le_refl _) (by simp [Value.ownBlock]); obtain ⟨g, cap, hv, hg1, hg2⟩ := hown2.form (by omega); injection hv with h1 h2 h3; subst h1 h3; have HO := Lib.hid hown2; clear hown2 hgrow2)
  have H2 := Lib.hid (H1.out.below b2')
  have HB2 : Hid (∀ k (hk : k < [y0, y1, y2, y3].length), w2.cell? ⟨w.heap.size, k, none⟩ = some (.int .u8 ([y0, y1, y2, y3][k].toNat : Int))) := Lib.hid (fun k hk => cell_later b2' (HB.out k hk))
  have b2 := b1.trans (b2'.mono b1.size)
  clear H1 HB b2' b1 c0 c1 c2 c3 hq'
  generalize [y0, y1, y2, y3] = bs at HB2 hbl
  go_loopw [8, 9] (fun s i wr => ∃ k : Nat, k ≤ 4 ∧ m + k ≤ n ∧ i = .int .i64 k ∧ s = .bool (allz (bs.take k)) ∧ wr.ownsRow w1.heap.size 5 1 (.slice (some ⟨g, 0, none⟩) n cm) n (bv (mixed l m (bs.take k))) ∧ w2.grownBy wr (some g)) (fun _ i _ => 4 - (intOf i).toNat)
  case atStart => exact ⟨0, by omega, by omega, rfl, rfl, by rw [List.take_zero, mixed_nil]; exact HO.out, World.grownBy.refl _ _⟩
  case round =>
    obtain ⟨k, hk, hmk, rfl, rfl, hown, hgrow⟩ := hrel
    by_cases hgo : k < 4 ∧ m + k < n
    · obtain ⟨hk4, hmk2⟩ := hgo
      have hkb : k < bs.length := by rw [hbl.out]; exact hk4
      have hml : m + k < l.length := by rw [hll.out]; exact hmk2
      have hml2 : m + k < (mixed l m (bs.take k)).length := by rw [mixed_length]; exact hml
      have hck : wr.cell? ⟨g, m + k, none⟩ = some (.int .u8 (l[m + k].toNat : Int)) := by
        rw [hown.cellAt (m + k) (by omega), (bv_get _ (m + k) _).2 ⟨hml2, rfl⟩, mixed_get l m bs k hml]
      have hfk := hown.frozenAt (m + k)
      have hbx : wr.cell? ⟨w.heap.size, k, none⟩ = some (.int .u8 (bs[k].toNat : Int)) := hgrow.cell (HB2.out k hkb) (by intro e; injection e with e; simp at e; omega)
      have hst := hown.drew.stored (m + k) (.int .u8 ((l[m + k] ^^^ bs[k]).toNat : Int))
      rw [bv_set, mixed_set l m bs k hkb hml, UInt8.toNat_xor] at hst
      have HST := Lib.hid hst
      have hxor := u8_xor_nat l[m + k].toNat bs[k].toNat (UInt8.toNat_lt _) (UInt8.toNat_lt _)
      have HZ := Lib.hid (allz_snoc bs k hkb)
      have hzero : (bs[k] == 0) = ((bs[k].toNat : Int) == 0) := by
        rw [Bool.eq_iff_iff, beq_iff_eq, beq_iff_eq, ← UInt8.toNat_inj]
        simp
      have HE := Lib.hid hzero
      have hi1 : IntKind.i64.wrap ((m : Int) + (k : Int)) = (m : Int) + (k : Int) := IntWalk.i64_in _ (by omega)
      have hi2 : (0 : Int) ≤ (m : Int) + (k : Int) := by omega
      have hi3 : ((m : Int) + (k : Int)).toNat = m + k := by omega
      have hi4 : (m : Int) + (k : Int) < (n : Int) := by omega
      have hi5 : (k : Int) < (n : Int) - (m : Int) := by omega
      clear hst hzero hml2 hown
      go_wp2
      go_still_tail 15, (by kernel_rfl)
      change wpList _ _ _ _ _ wr.drew
      have hfk3 : wr.drew.frozen? ⟨g, m + k, none⟩ = false := hfk
      have hck3 : wr.drew.cell? ⟨g, m + k, none⟩ = some (.int .u8 (l[m + k].toNat : Int)) := hck
      have hbx3 : (wr.drew.setCell ⟨g, m + k, none⟩ (.int .u8 ((l[m + k].toNat ^^^ bs[k].toNat : Nat) : Int))).cell? ⟨w.heap.size, k, none⟩ = some (.int .u8 (bs[k].toNat : Int)) :=
        HST.out.2.cell hbx (by intro e; injection e with e; simp at e; omega)
      have hgr3 := grown_trans (grown_drew hgrow) HST.out.2
      have HG3 := Lib.hid hgr3
      have HST3 := Lib.hid HST.out.1
      clear HST hgr3 hck hfk hbx hgrow hxor
      generalize wr.drew = w3 at *
      generalize l[m + k].toNat ^^^ bs[k].toNat = Z at *
      generalize l[m + k].toNat = X at *
      generalize bs[k].toNat = Y at *
      generalize allz (bs.take k) = S at *
      cases S
      · go_wp2
        go_roundw
        case rel => exact ⟨k + 1, by omega, by omega, by go_num, by rw [HZ.out]; rfl, HST3.out, HG3.out⟩
        case measure => simp [intOf]; omega
      · by_cases hy : Y = 0
        · have hy1 : ((Y : Int) == 0) = true := by simp [hy]
          go_wp2
          go_roundw
          case rel => exact ⟨k + 1, by omega, by omega, by go_num, by rw [HZ.out, HE.out, hy]; rfl, HST3.out, HG3.out⟩
          case measure => simp [intOf]; omega
        · have hy1 : ((Y : Int) == 0) = false := by simp [hy]
          go_wp2
          go_roundw
          case rel => exact ⟨k + 1, by omega, by omega, by go_num, by rw [HZ.out, HE.out, hy1]; rfl, HST3.out, HG3.out⟩
          case measure => simp [intOf]; omega
    · have hlen : (bs.take k).length = k := by rw [List.length_take, hbl.out]; omega
      have hfd := found l m (bs.take k) (by omega) (by rw [hlen, hll.out]; exact hmk)
      have HF := Lib.hid hfd
      have hb3 : Below w.heap.size w wr := b2.grown hgrow b2.size (by rintro q hq; injection hq with hq; omega)
      have Ho := Lib.hid (Hold.of_own hown)
      have Hl := Lib.hid (H.out.below hb3)
      clear hfd hown hlen hgrow b2
      by_cases hk4 : k < 4
      · have hng : (n : Int) - (m : Int) ≤ (k : Int) := by omega
        have hng2 : decide ((k : Int) < (n : Int) - (m : Int)) = false := by simp; omega
        go_wp2_with fail
        refine (sum_one (some ⟨g, 0, none⟩) n cm _ wr Ho.out hn _ rfl).mono ?_
        rintro e w4 ⟨rfl, rfl⟩
        go_wp2_with fail
        refine (sum_one A n c l _ (Hl.out.below ((Below.refl _ _).alloc (Nat.le_refl _) _)) hn _ (by simp)).mono ?_
        rintro e w4 ⟨rfl, rfl⟩
        have hf := HF.out
        generalize crc (mixed l m (bs.take k)) = C1 at *
        generalize crc l = C2 at *
        generalize allz (bs.take k) = S at *
        have hs := hb3.size
        cases S
        · go_wp2
          go_ret
          exact ⟨rfl, (hb3.alloc hs _).alloc (by simp; omega) _⟩
        · go_wp2
          go_ret
          exact ⟨rfl, (hb3.alloc hs _).alloc (by simp; omega) _⟩
      · have hk4' : 4 ≤ (k : Int) := by omega
        go_wp2_with fail
        refine (sum_one (some ⟨g, 0, none⟩) n cm _ wr Ho.out hn _ rfl).mono ?_
        rintro e w4 ⟨rfl, rfl⟩
        go_wp2_with fail
        refine (sum_one A n c l _ (Hl.out.below ((Below.refl _ _).alloc (Nat.le_refl _) _)) hn _ (by simp)).mono ?_
        rintro e w4 ⟨rfl, rfl⟩
        have hf := HF.out
        generalize crc (mixed l m (bs.take k)) = C1 at *
        generalize crc l = C2 at *
        generalize allz (bs.take k) = S at *
        have hs := hb3.size
        cases S
        · go_wp2
          go_ret
          exact ⟨rfl, (hb3.alloc hs _).alloc (by simp; omega) _⟩
        · go_wp2
          go_ret
          exact ⟨rfl, (hb3.alloc hs _).alloc (by simp; omega) _⟩
end Go.Proofs.Ytpaagokojjcdgaa
