/-
  What is proved: two rows of numbers of a law's own, and the walk of the law JournalSpoilt. Conditions: the number of frames is within Go's own reach.
-/
import Derived.Test.YtkghjgpeobacjaaTorn
import Derived.Test.YtkghjgpeobacjaaSpm
namespace Go.Proofs.Ytkghjgpeobacjaa
open Go.RowKit

def iv (xs : List Int) : List Value := xs.map fun x => .int .i64 x
/-- two rows of numbers of the law's own -/
def NR2 (w wr : World) (v1 v2 : Value) (xs1 xs2 : List Int) : Prop :=
  wr.ownsRow w.heap.size 3 1 v1 xs1.length (iv xs1) ∧ wr.ownsRow w.heap.size 3 1 v2 xs2.length (iv xs2) ∧ ∀ b, v1.ownBlock = some b → v2.ownBlock ≠ some b
section
variable {w wr wr' : World} {v1 v2 : Value} {xs1 xs2 : List Int}
theorem NR2.nil (w wr : World) : NR2 w wr (.slice none 0 0) (.slice none 0 0) [] [] := ⟨World.ownsRow_nil _ _ _ _, World.ownsRow_nil _ _ _ _, fun b h => by cases h⟩
theorem NR2.swap (h : NR2 w wr v1 v2 xs1 xs2) : NR2 w wr v2 v1 xs2 xs1 := ⟨h.2.1, h.1, fun b h1 h2 => h.2.2 b h2 h1⟩
theorem NR2.others (h : NR2 w wr v1 v2 xs1 xs2) (ho : Others wr wr') : NR2 w wr' v1 v2 xs1 xs2 :=
  ⟨own_others h.1 ho (by decide) (by decide) (by decide) (by decide), own_others h.2.1 ho (by decide) (by decide) (by decide) (by decide), h.2.2⟩
theorem NR2.below (h : NR2 w wr v1 v2 xs1 xs2) (hb : Below wr.heap.size wr wr') : NR2 w wr' v1 v2 xs1 xs2 := h.others (Others.below hb)
theorem NR2.form (h : NR2 w wr v1 v2 xs1 xs2) : ∃ A c, v1 = .slice A xs1.length c := own_form37 h.1
theorem NR2.get (h : NR2 w wr v1 v2 xs1 xs2) {k : Nat} (hk : k < xs1.length) : ∃ Q c, v1 = .slice (some ⟨Q, 0, none⟩) xs1.length c ∧ wr.cell? ⟨Q, k, none⟩ = some (.int .i64 xs1[k]) := by
  rcases h.1.2 with ⟨_, h0⟩ | ⟨Q, cap, cur, hv, hb, hg, k1, k2, k3, k4⟩
  · omega
  · refine ⟨Q, cap, hv, ?_⟩
    subst hv
    have := h.1.cells (g := Q) rfl k (.int .i64 xs1[k]) (by simp [iv, hk])
    rwa [Addr.add_lit, Nat.zero_add] at this
end
theorem Try.info3 : (Try.prog.info? 3).map (fun i => (i.zero, i.size, i.bytes)) = some (some (.int .i64 0), 1, 8) := by kernel_rfl
/-- one more number -/
theorem wpList_num {w wr : World} {ops : Array Oper} {rest : List Oper} {o : Oper} {a : Act} {Q : Exit → Act → World → Prop} (hgd : o.guard = none) (s x : Operand)
    (ho : o.op = .call { callee := .builtin .append, args := #[s, x], argTypes := #[62, 62] }) {v1 v2 : Value} {xs1 xs2 : List Int} {z : Int} {W : World} (hW : W = wr.alloc (.cells #[.int .i64 z] 3))
    (hs : a.eval s = v1) (hx : a.eval x = .slice (some ⟨wr.heap.size, 0, none⟩) 1 1) (hl : NR2 w wr v1 v2 xs1 xs2) (hb : Below w.heap.size w wr) (hf : xs1.length ≤ 1000)
    (h : ∀ v' w', NR2 w w' v' v2 (xs1 ++ [z]) xs2 → Below w.heap.size w w' → (∀ {w0 : World} {j g : Nat} {x : JS}, w0.heap.size ≤ w.heap.size → JM w0 wr j g x → JM w0 w' j g x) → wpList Try.prog ops Q rest (a.put o.dst v') w') : wpList Try.prog ops Q (o :: rest) a W := by
  subst hW
  obtain ⟨i0, hi, hz0, hz1, hz2⟩ := info_parts Try.info3
  have hba : Below wr.heap.size wr (wr.alloc (.cells #[.int .i64 z] 3)) := (Below.refl _ _).alloc (Nat.le_refl _) _
  have ha := (hl.below hba)
  have hsz := hb.size
  refine wpList_append_lies _ hgd s x 62 ho w.heap.size 3 i0 (.int .i64 0) 1 8 Try.underlying62 hi hz0 hz1 hz2 rfl (by decide) v1 xs1.length (iv xs1) hs ha.1 ⟨wr.heap.size, 0, none⟩ 1 1 [.int .i64 z] hx rfl (cell_one_new _ _ _) (by intro u hu; simp at hu; subst hu; rfl) (by decide) (by unfold maxLen; omega) (by omega) (by simp; omega) _ rfl ?_
  intro g cap w' hown hgrow hat _
  have h2 : w'.ownsRow w.heap.size 3 1 v2 xs2.length (iv xs2) := ha.2.1.kept (row := v1.ownBlock) hgrow (by
    cases hv : v2.ownBlock with
    | none => exact .inl rfl
    | some b => exact .inr fun e => ha.2.2 b e.symm hv)
  refine h _ w' ⟨by simpa [iv] using hown, h2, fun b hb' h2' => ?_⟩ ?_ ?_
  · simp only [Value.ownBlock, Option.some.injEq] at hb'
    subst hb'
    rcases hat with hat | hat
    · exact ha.2.2 _ hat h2'
    · have := (hl.2.1.lt _ h2').2
      have hs : (wr.alloc (.cells #[.int .i64 z] 3)).heap.size = wr.heap.size + 1 := by simp
      omega
  · exact (hb.trans (hba.mono hsz)).grown hgrow (by simp; omega) (fun k hk => (ha.1.lt k hk).1)
  · intro w0 j g y h0 hM
    have hM1 := hM.below hba
    refine hM1.frame (S := fun b => v1.ownBlock = some b) ((Chg.refl _ _).grown hgrow fun b hb => .inl hb) (fun b hb => Nat.le_trans h0 (ha.1.lt b hb).1) fun b hb => ?_
    obtain ⟨C, hC⟩ := own_tag (own_mono ha.1 (Nat.zero_le _)) hb
    exact ⟨C, 3, (0, 0), hC, by decide, by decide, by decide, by decide⟩
def allz (l : List UInt8) : Bool := l.all (· == 0)
theorem allz_snoc (l : List UInt8) (k : Nat) (h : k < l.length) : allz (l.take (k + 1)) = (allz (l.take k) && l[k] == 0) := by
  unfold allz
  rw [List.take_succ_eq_append_getElem h, List.all_append]
  simp only [List.all_cons, List.all_nil, Bool.and_true]
theorem allz_iff (l : List UInt8) : allz l = true ↔ ∀ b ∈ l, b = 0 := by simp [allz]
theorem mixed_get (l : List UInt8) (p : Nat) (bs : List UInt8) (k : Nat) (hp : p + k < l.length) : (mixed l p (bs.take k))[p + k]? = l[p + k]? := by
  have e : (bs.take k)[p + k - p]? = none := List.getElem?_eq_none (by simp; omega)
  have hl : p + k < (mixed l p (bs.take k)).length := by rw [mixed_length]; exact hp
  rw [List.getElem?_eq_getElem hl, List.getElem?_eq_getElem hp]
  simp only [mixed, List.getElem_mapIdx, e, Option.getD_none, UInt8.xor_zero, ite_self]
theorem mixed_zero (l : List UInt8) (p : Nat) (bs : List UInt8) (h : ∀ b ∈ bs, b = 0) : mixed l p bs = l := by
  apply List.ext_getElem (mixed_length l p bs)
  intro i h1 h2
  simp only [mixed, List.getElem_mapIdx]
  split
  · have : (bs[i - p]?).getD 0 = 0 := by
      cases e : bs[i - p]? with
      | none => rfl
      | some b => exact h b (List.mem_of_getElem? e)
    rw [this, UInt8.xor_zero]
  · rfl
/-- what Open answers of a journal of which a frame's bytes were turned -/
theorem spoilt_err {d : D} {fs : List (List UInt8)} {k m en : Nat} (hk : k < fs.length) {q : Nat} {bs : List UInt8} (hb : bs.length ≤ 4) (hq : q + bs.length ≤ fs[k].length) (hs : ∀ b ∈ fs, b.length ≤ 1048576) (hen : en ≤ 6400)
    (h : Turned d en m (Zx (fs.take k) (fs.drop (k + 1)) fs[k] (mixed fs[k] q bs))) :
    (allz bs = true → d.openErr ((0 : Nat) : Int) ((100 : Nat) : Int) (en : Int) (fs.length : Int) = 0 ∧ (d.openFs ((0 : Nat) : Int) (en : Int)).length = fs.length) ∧ (allz bs = false → d.openErr ((0 : Nat) : Int) ((100 : Nat) : Int) (en : Int) (fs.length : Int) = 52) := by
  have hl := h.len
  have hbad : ¬ d.badArea ((0 : Nat) : Int) ((100 : Nat) : Int) := by unfold D.badArea; omega
  have hu : ¬ d.left = 0 := by rw [h.up]; decide
  have ha := h.area0 hen
  refine ⟨fun hz => ?_, fun hz => ?_⟩
  · rw [mixed_zero _ _ _ ((allz_iff bs).1 hz), ← Zx_self, ← parted fs k hk] at ha
    have hsp : splitOf (d.area 0 en) = some fs := by
      rw [ha]
      exact splitOf_frames fs fun b hb => Nat.le_trans (hs b hb) (by decide)
    unfold D.openErr D.openFs
    rw [if_neg hbad, if_neg (by omega), if_neg hu, Int.toNat_natCast, Int.toNat_natCast, hsp]
    simp
  · have hc : crc (mixed fs[k] q bs) ≠ crc fs[k] := fun e => by
      have := (allz_iff bs).2 ((crc_mixed fs[k] q bs hb hq).1 e)
      rw [hz] at this
      cases this
    have hsp : splitOf (d.area 0 en) = none := by
      rw [ha]
      exact split_spoilt _ _ _ _ (fun c hc => Nat.le_trans (hs c (List.mem_of_mem_take hc)) (by decide)) (Nat.le_trans (hs _ (List.getElem_mem hk)) (by decide)) (mixed_length _ _ _) hc
    unfold D.openErr
    rw [if_neg hbad, if_neg (by omega), if_neg hu, Int.toNat_natCast, Int.toNat_natCast, hsp]
    simp
end Go.Proofs.Ytkghjgpeobacjaa
