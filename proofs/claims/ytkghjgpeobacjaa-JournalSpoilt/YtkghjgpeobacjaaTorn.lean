/-
  What is proved: the walk of the law JournalTorn: for all frames and whatever fate it returns true and turns nothing that was there. Conditions: the numbers of bytes and frames are within Go's own reach.
-/
import Derived.Test.YtkghjgpeobacjaaKeeps
import Derived.Test.YtkghjgpeobacjaaJz
namespace Go.Proofs.Ytkghjgpeobacjaa
open Go.RowKit

/-- an Append while the power may go, and the crash behind it -/
theorem Has.torn {x : JS} {fs : List (List UInt8)} (h : Has x fs) (hbuf : x.d.buf = []) (n : Int) (h1 : -9223372036854775808 ≤ n) (h2 : n ≤ 9223372036854775807) (b : List UInt8) :
    ∃ y : JS, y = ⟨x.d.aSt n, x.fr, x.to, x.en, x.cn⟩ ∧ y.Ok ∧ y.d.buf = [] ∧ (y.app b).d.buf.length ≤ 65536 ∧ (∀ k t, Has ⟨(y.app b).d.cSt k t, x.fr, x.to, x.en, x.cn⟩ fs) ∧
      ((y.err b ≠ 0 ∧ (y.app b).fr = x.fr ∧ (y.app b).to = x.to ∧ (y.app b).en = x.en ∧ (y.app b).cn = x.cn) ∨
       (y.err b = 0 ∧ ∀ k t, Has ⟨(y.app b).d.cSt k t, (y.app b).fr, (y.app b).to, (y.app b).en, (y.app b).cn⟩ (fs ++ [b]) ∧ (y.app b).fr = x.fr ∧ (y.app b).to = x.to)) := by
  have ha := h.arm n h1 h2
  have e2 : (x.d.aSt n).buf = [] := by rw [← hbuf]; unfold D.aSt; split <;> rfl
  obtain ⟨y, hy⟩ : ∃ y : JS, y = ⟨x.d.aSt n, x.fr, x.to, x.en, x.cn⟩ := ⟨_, rfl⟩
  rw [← hy] at ha
  have yb : y.d.buf = [] := by rw [hy]; exact e2
  have y1 : y.fr = x.fr := by rw [hy]
  have y2 : y.to = x.to := by rw [hy]
  have y3 : y.en = x.en := by rw [hy]
  have y4 : y.cn = x.cn := by rw [hy]
  rw [← y1, ← y2, ← y3, ← y4]
  refine ⟨y, by rw [y1, y2, y3, y4]; exact hy, ha.ok, yb, ?_⟩
  have hz : y.d.buf.length ≤ 65536 := by rw [yb]; decide
  by_cases c1 : 1048576 < b.length
  · have ea : y.app b = y := by unfold JS.app; rw [if_pos c1]
    have ee : y.err b = 3 := by unfold JS.err; rw [if_pos c1]
    rw [ea, ee]
    exact ⟨hz, fun k t => ha.crash yb k t, .inl ⟨by decide, rfl, rfl, rfl, rfl⟩⟩
  · by_cases c2 : 64 * (y.to - y.fr) < y.en + 16 + b.length
    · have ea : y.app b = y := by unfold JS.app; rw [if_neg c1, if_pos c2]
      have ee : y.err b = 51 := by unfold JS.err; rw [if_neg c1, if_pos c2]
      rw [ea, ee]
      exact ⟨hz, fun k t => ha.crash yb k t, .inl ⟨by decide, rfl, rfl, rfl, rfl⟩⟩
    · by_cases c3 : y.d.left = 0
      · have ea : y.app b = y := by unfold JS.app; rw [if_neg c1, if_neg c2, if_pos c3]
        have ee : y.err b = 32 := by unfold JS.err; rw [if_neg c1, if_neg c2, if_pos c3]
        rw [ea, ee]
        exact ⟨hz, fun k t => ha.crash yb k t, .inl ⟨by decide, rfl, rfl, rfl, rfl⟩⟩
      · have hm := ha.dok.most
        have hpl := ha.ok.place (b := b) (by omega)
        rcases ha.append yb (b := b) (by omega) (by omega) c3 with ⟨g1, g2, g3, g4, g5⟩ | ⟨g1, g2, g3⟩
        · refine ⟨by rw [g3]; decide, fun k t => ?_, .inr ⟨g1, fun k t => ⟨g2.crash g3 k t, ?_, ?_⟩⟩⟩
          · exact Has.crash (x := ⟨(y.app b).d, y.fr, y.to, y.en, y.cn⟩) g5 g3 k t
          · rw [g4]
          · rw [g4]
        · refine ⟨?_, g3, .inl ⟨by rw [g1]; decide, ?_, ?_, ?_, ?_⟩⟩
          · rcases app_form (b := b) hpl yb with ⟨_, e, _⟩ | ⟨e0, j, hj, e, _⟩
            · have : (y.app b).d = (y.wr b).fSt := by
                unfold JS.app
                rw [if_neg c1, if_neg c2, if_neg c3]
                split <;> rfl
              rw [this]
              show (y.d.appW (y.fr + y.en / 64) (y.en % 64) b).fSt.buf.length ≤ _
              rw [e]; decide
            · have : (y.app b).d = (y.wr b).fSt := by
                unfold JS.app
                rw [if_neg c1, if_neg c2, if_neg c3]
                split <;> rfl
              rw [this]
              show (y.d.appW (y.fr + y.en / 64) (y.en % 64) b).fSt.buf.length ≤ _
              rw [e, wsOf_length]
              omega
          all_goals rw [g2]
/-- Open of a journal as it is, on a disk of the law's own -/
theorem open_mine_has {w0 w : World} {g : Nat} {x : JS} {fs : List (List UInt8)} (h : Mine w0 w g x.d) (hs : Has x fs) (hu : x.d.left ≠ 0) (hbuf : x.d.buf.length ≤ 4611686018427387904) :
    Calls Try.prog 10 #[.pointer (some ⟨g, 0, none⟩), .int .i64 (x.fr : Int), .int .i64 (x.to : Int), .int .i64 (x.en : Int), .int .i64 (x.cn : Int)] w fun e w' => ∃ j' B C, e = .returned (.tuple #[.pointer (some ⟨j', 0, none⟩), .slice B fs.length C, .int .i64 0]) ∧ (∃ ps, Rows0 w' B fs.length ps ∧ ps.map (·.2.2.2) = fs) ∧ Below w.heap.size w w' := by
  have hm := hs.dok.most
  obtain ⟨a1, a2, a3, a4⟩ := hs.ok
  refine (open_mine h (x.fr : Int) (x.to : Int) (x.en : Int) (x.cn : Int) (by omega) (by omega) hbuf).mono fun e w' hp => ?_
  obtain ⟨e0, e1⟩ := hs.opens hu
  obtain ⟨j', B, C, rfl, hj, hJ, hF, hb⟩ := hp.1 e0
  rw [e1] at hF ⊢
  exact ⟨j', B, C, rfl, hF.rows rfl, hb⟩

/-- the list of frames that were laid: a row of the law's own; the frames lie where they lay -/
def Laid (w wr : World) (v : Value) (fs : List (List UInt8)) : Prop :=
  ∃ ps : List Part, wr.ownsRow w.heap.size 37 1 v ps.length (ps.map Part.val) ∧ (∀ p ∈ ps, Hold w p.1 p.2.1 p.2.2.1 p.2.2.2) ∧ ps.map (·.2.2.2) = fs
theorem Laid.nil (w wr : World) : Laid w wr (.slice none 0 0) [] := ⟨[], World.ownsRow_nil _ _ _ _, by simp, rfl⟩
theorem Laid.others {w wr wr' : World} {v : Value} {fs : List (List UInt8)} (h : Laid w wr v fs) (ho : Others wr wr') : Laid w wr' v fs := by
  obtain ⟨ps, h1, h2, h3⟩ := h
  exact ⟨ps, own_others h1 ho (by decide) (by decide) (by decide) (by decide), h2, h3⟩
theorem Laid.below {w wr wr' : World} {v : Value} {fs : List (List UInt8)} (h : Laid w wr v fs) (hb : Below wr.heap.size wr wr') : Laid w wr' v fs := h.others (Others.below hb)
theorem Laid.form {w wr : World} {v : Value} {fs : List (List UInt8)} (h : Laid w wr v fs) : ∃ B C, v = .slice B fs.length C := by
  obtain ⟨ps, h1, h2, h3⟩ := h
  obtain ⟨B, C, e⟩ := own_form37 h1
  exact ⟨B, C, by rw [e, ← h3, List.length_map]⟩
theorem Laid.rows {w wr : World} {B : Option Addr} {N C : Nat} {fs : List (List UInt8)} (h : Laid w wr (.slice B N C) fs) (hb : Below w.heap.size w wr) (hN : N = fs.length) : ∃ ps, Rows0 wr B N ps ∧ ps.map (·.2.2.2) = fs := by
  obtain ⟨ps, h3, h2, h1⟩ := h
  have hl : ps.length = fs.length := by rw [← h1]; simp
  refine ⟨ps, ⟨by omega, fun p hp => (h2 p hp).below hb, fun h0 => ?_⟩, h1⟩
  rcases h3.2 with ⟨_, h0'⟩ | ⟨Q, cap, cur, hv, hb, hg, k1, k2, k3, k4⟩
  · omega
  · injection hv with e1 e2 e3
    subst e1
    refine ⟨Q, 0, rfl, fun j hj => ?_⟩
    have := h3.cells (g := Q) rfl j ps[j].val (by simp [hj])
    rwa [Addr.add_lit] at this
/-- one more is laid -/
theorem wpList_lay {w wr : World} {ops : Array Oper} {rest : List Oper} {o : Oper} {a : Act} {Q : Exit → Act → World → Prop} (hgd : o.guard = none) (s x : Operand)
    (ho : o.op = .call { callee := .builtin .append, args := #[s, x], argTypes := #[29, 29] }) {v : Value} {fs : List (List UInt8)} {A : Option Addr} {n c : Nat} {l : List UInt8} {W : World} (hW : W = wr.alloc (.cells #[.slice A n c] 37))
    (hs : a.eval s = v) (hx : a.eval x = .slice (some ⟨wr.heap.size, 0, none⟩) 1 1) (hl : Laid w wr v fs) (hh : Hold w A n c l) (hb : Below w.heap.size w wr) (hf : fs.length ≤ 1000)
    (h : ∀ v' w', Laid w w' v' (fs ++ [l]) → Below w.heap.size w w' → (∀ {w0 : World} {j g : Nat} {x : JS}, w0.heap.size ≤ w.heap.size → JM w0 wr j g x → JM w0 w' j g x) → wpList Try.prog ops Q rest (a.put o.dst v') w') : wpList Try.prog ops Q (o :: rest) a W := by
  subst hW
  obtain ⟨i0, hi, hz0, hz1, hz2⟩ := info_parts Try.info37
  obtain ⟨ps, h1, h2, h3⟩ := hl
  have hpl : ps.length = fs.length := by rw [← h3]; simp
  have hba : Below wr.heap.size wr (wr.alloc (.cells #[.slice A n c] 37)) := (Below.refl _ _).alloc (Nat.le_refl _) _
  have ha := h1.alloc (.cells #[.slice A n c] 37)
  refine wpList_append_own _ hgd s x 29 ho w.heap.size 37 i0 (.slice none 0 0) 1 24 Try.underlying29 hi hz0 hz1 hz2 rfl (by decide) v ps.length (ps.map Part.val) hs ha ⟨wr.heap.size, 0, none⟩ 1 1 [.slice A n c] hx rfl (cell_one_new _ _ _) (by intro u hu; simp at hu; subst hu; rfl) (by unfold maxLen; omega) (by omega) (by simp; have := hb.size; omega) ?_
  intro v' w' hown hgrow _
  have hsz := hb.size
  refine h v' w' ⟨ps ++ [(A, n, c, l)], by simpa [Part.val] using hown, ?_, by simp [h3]⟩ ?_ ?_
  · intro p hp
    rcases List.mem_append.1 hp with hp | hp
    · exact h2 p hp
    · simp at hp
      subst hp
      exact hh
  · exact (hb.trans (hba.mono hsz)).grown hgrow (by simp; omega) (fun k hk => (ha.lt k hk).1)
  · intro w0 j g y h0 hM
    have hM1 := hM.below hba
    refine hM1.frame (S := fun b => v.ownBlock = some b) ((Chg.refl _ _).grown hgrow fun b hb => .inl hb) (fun b hb => Nat.le_trans h0 (ha.lt b hb).1) fun b hb => ?_
    obtain ⟨C, hC⟩ := own_tag (own_mono ha (Nat.zero_le _)) hb
    exact ⟨C, 37, (0, 0), hC, by decide, by decide, by decide, by decide⟩
end Go.Proofs.Ytkghjgpeobacjaa
