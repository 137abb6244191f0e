/-
  What is proved: as in the texts on regions that draw their order; here what holds may hang on the frame, the world, and which operations have come up.
-/
import Derived.Test.YtbokcihlbpeagaaGreatDoorSsc
namespace Go.Proofs.YtbokcihlbpeagaaGreatDoor

section
variable {P : Program} {ops : Array Oper} {Q : Exit → Act → World → Prop} {a0 : Act} {w0 : World} {F : Nat → Value → Prop} {J : (Nat → Bool) → Act → World → Prop}

structure AInv (ops : Array Oper) (a0 : Act) (F : Nat → Value → Prop) (J : (Nat → Bool) → Act → World → Prop) (listed : Array Bool) (a : Act) (w : World) : Prop where
  size : listed.size = ops.size
  off : Off ops a0 a
  rel : J (fun i => listed.getD i false) a w
  fact : ∀ (i : Nat) (o : Oper), ops[i]? = some o → listed.getD i false = true → F i (slotOf a o)
  closed : ∀ (i : Nat) (o : Oper), ops[i]? = some o → listed.getD i false = true → ∀ j, hasEdge o j = true → listed.getD j false = true

theorem AInv.step (hs : ssaB ops a0.tmps.size = true)
    {listed : Array Bool} {a : Act} {w w' : World} (h : AInv ops a0 F J listed a w) {i : Nat} {o : Oper} (ho : ops[i]? = some o) {v : Value} (hd : ∀ j, hasEdge o j = true → listed.getD j false = true) (hF : F i (gotOf o v)) (hJ : J (updB (fun j => listed.getD j false) i) (a.put o.dst v) w') :
    AInv ops a0 F J (listed.setIfInBounds i true) (a.put o.dst v) w' := by
  have hi : i < listed.size := by rw [h.size]; exact (Array.getElem?_eq_some_iff.1 ho).1
  refine ⟨by simpa using h.size, ⟨by rw [put_size]; exact h.off.size, by rw [put_defers]; exact h.off.defers, fun t ht => ?_⟩, by rw [listed_set hi]; exact hJ, fun j p hp hl => ?_, fun j p hp hl k hk => ?_⟩
  · rw [put_other a o.dst v t (ht i o ho)]
    exact h.off.slot t ht
  · by_cases hji : j = i
    · subst hji
      rw [ho] at hp
      injection hp with hp
      subst hp
      have : slotOf (a.put o.dst v) o = gotOf o v := by
        unfold slotOf gotOf
        cases hd : o.dst with
        | none => rfl
        | some d => exact put_at a d v (by rw [h.off.size]; exact ssa_dst hs ho hd)
      rw [this]
      exact hF
    · have hl' : listed.getD j false = true := by
        simpa [Array.getElem?_setIfInBounds, Ne.symm hji] using hl
      have : slotOf (a.put o.dst v) p = slotOf a p := by
        unfold slotOf
        cases hd : p.dst with
        | none => rfl
        | some d =>
          exact put_other a o.dst v d (fun e => ssa_one hs hp ho hd (Ne.symm hji) e)
      rw [this]
      exact h.fact j p hp hl'
  · have hl2 : updB (fun j => listed.getD j false) i j = true := by rw [← listed_set hi]; exact hl
    have goal : updB (fun j => listed.getD j false) i k = true := by
      by_cases hji : j = i
      · subst hji
        rw [ho] at hp
        injection hp with hp
        subst hp
        unfold updB
        split
        · rfl
        · exact hd k hk
      · rw [updB_other _ hji] at hl2
        unfold updB
        split
        · rfl
        · exact h.closed j p hp hl2 k hk
    rw [← listed_set hi] at goal
    exact goal

/-- an operation has yielded what is said of it, the world has grown, and is as it must be behind it -/
def PutA (F : Nat → Value → Prop) (J : (Nat → Bool) → Act → World → Prop) (ls : Nat → Bool) (i : Nat) (o : Oper) (a : Act) (a' : Act) (w' : World) : Prop :=
  ∃ v, a' = a.put o.dst v ∧ F i (gotOf o v) ∧ J (updB ls i) a' w'
/-- what is owed of one operation -/
def StepA (P : Program) (ops : Array Oper) (Q : Exit → Act → World → Prop) (a0 : Act) (F : Nat → Value → Prop) (J : (Nat → Bool) → Act → World → Prop) (i : Nat) (o : Oper) : Prop :=
  ∀ a w ls, J ls a w → ls i = false → ClosedL ops ls → (∀ j, hasEdge o j = true → ls j = true) → Off ops a0 a → (∀ j p, ls j = true → ops[j]? = some p → F j (slotOf a p)) →
      (Region.wanted o (yielded ops a.tmps) = true ∧ o.wp P a w (PutA F J ls i o a) Q) ∨ (Region.wanted o (yielded ops a.tmps) = false ∧ F i (gotOf o undef) ∧ J (updB ls i) (a.put o.dst undef) w)

theorem wpAny_ssa2 (hs : ssaB ops a0.tmps.size = true)
    (hstep : ∀ (i : Nat) (o : Oper), ops[i]? = some o → StepA P ops Q a0 F J i o)
    (hend : ∀ a w ls, (∀ i, i < ops.size → ls i = true) → J ls a w → Off ops a0 a → (∀ (i : Nat) (o : Oper), ops[i]? = some o → F i (slotOf a o)) → Q .normal a w) :
    ∀ (fuel : Nat) (listed : Array Bool) (a : Act) (w : World), listed.toList.count false ≤ fuel → AInv ops a0 F J listed a w → wpAny P .any ops Q fuel listed a w := by
  intro fuel
  have fin : ∀ (listed : Array Bool) (a : Act) (w : World), AInv ops a0 F J listed a w → Region.ready .any ops listed = [] → Q .normal a w := by
    intro listed a w h hr
    have hall := all_listed hs h.size hr
    exact hend a w _ hall h.rel h.off (fun i o ho => h.fact i o ho (hall i (Array.getElem?_eq_some_iff.1 ho).1))
  induction fuel with
  | zero =>
    intro listed a w hc h
    have hr : Region.ready .any ops listed = [] := by
      unfold Region.ready
      rw [List.filter_eq_nil_iff]
      intro i hi
      have hi' : i < listed.size := by rw [h.size]; exact List.mem_range.1 hi
      have hnf : false ∉ listed.toList := by
        intro hm
        have := List.count_pos_iff.2 hm
        omega
      have hl : listed[i] = true := by
        cases hx : listed[i] with
        | true => rfl
        | false => exact absurd (by rw [← hx]; simp) hnf
      simp [hi', hl]
    exact ⟨hr, fin _ _ _ h hr⟩
  | succ fuel ih =>
    intro listed a w hc h
    refine ⟨fin _ _ _ h, fun i hi => ?_⟩
    unfold Region.ready at hi
    rw [List.mem_filter] at hi
    obtain ⟨hi1, hi2⟩ := hi
    have hlt : i < ops.size := List.mem_range.1 hi1
    have hlt' : i < listed.size := by rw [h.size]; exact hlt
    have ho : ops[i]? = some ops[i] := Array.getElem?_eq_getElem hlt
    rw [ho] at hi2
    simp only [Bool.and_eq_true, Option.map_some, Option.getD_some, Array.all_eq_true'] at hi2
    obtain ⟨hul, hdeps⟩ := hi2
    have hul' : listed[i] = false := by
      simpa [hlt'] using hul
    have hcount : (listed.setIfInBounds i true).toList.count false ≤ fuel := by
      have e : (listed.setIfInBounds i true).toList = listed.toList.set i true := by simp
      have hlen : i < listed.toList.length := by simpa using hlt'
      have h0 : listed.toList[i] = false := by simpa using hul'
      rw [e, List.count_set hlen, h0]
      have hp : 0 < listed.toList.count false := List.count_pos_iff.2 (by rw [← h0]; exact List.getElem_mem hlen)
      simp only [beq_self_eq_true, if_true, show (true == false) = false from rfl, Bool.false_eq_true, if_false]
      omega
    have hd : ∀ j, hasEdge ops[i] j = true → listed.getD j false = true := by
      intro j hj
      obtain ⟨e, he, hj⟩ := List.any_eq_true.1 hj
      simp only [Bool.and_eq_true, beq_iff_eq] at hj
      obtain ⟨rfl, hb⟩ := hj
      have := hdeps e (by simpa using he)
      rw [hb] at this
      simpa using this
    have hli : listed.getD i false = false := by simp [hlt', hul']
    unfold wpOp
    simp only [ho]
    rcases hstep i ops[i] ho a w _ h.rel hli h.closed hd h.off (fun j p hj hp => h.fact j p hp hj) with ⟨hw, hwp⟩ | ⟨hw, hf, hJ⟩
    · rw [if_pos hw]
      refine .inl (Oper.wp_mono ?_ hwp)
      rintro a' w' ⟨v, rfl, hF, hJ⟩
      exact ih _ _ _ hcount (h.step hs ho hd hF hJ)
    · rw [if_neg (by rw [hw]; decide)]
      exact ih _ _ _ hcount (h.step hs ho hd hf hJ)

/-- A REGION THAT DRAWS ITS ORDER, operation by operation, with what holds of the world told by what has come up. -/
theorem wp_region_stepsA {id : Nat} (F : Nat → Value → Prop) (J : (Nat → Bool) → Act → World → Prop) (hm : P.follows .mixedOrders = true) (hs : ssaB ops a0.tmps.size = true)
    (h0 : J (fun _ => false) a0 w0.drew)
    (hstep : Steps (StepA P ops Q a0 F J) 0 ops.toList)
    (hend : ∀ a w ls, (∀ i, i < ops.size → ls i = true) → J ls a w → Off ops a0 a → (∀ (i : Nat) (o : Oper), ops[i]? = some o → F i (slotOf a o)) → Q .normal a w) :
    (Code.region id ops true).wp P Q a0 w0 := by
  refine wp_region_any hm (wpAny_ssa2 hs (fun i o ho => ?_) hend ops.size _ a0 w0.drew ?_ ?_)
  · have h := steps_get ops.toList 0 hstep i o (by simpa using ho)
    rwa [Nat.zero_add] at h
  · simp
  · have hf : (fun i => (Array.replicate ops.size false).getD i false) = fun _ => false := by
      funext i
      by_cases hi : i < ops.size <;> simp [hi]
    refine ⟨by simp, ⟨rfl, rfl, fun _ _ => rfl⟩, by rw [hf]; exact h0, fun i o ho hl => ?_, fun i o ho hl => ?_⟩
    · have hi : i < ops.size := (Array.getElem?_eq_some_iff.1 ho).1
      simp [hi] at hl
    · have hi : i < ops.size := (Array.getElem?_eq_some_iff.1 ho).1
      simp [hi] at hl
end

end Go.Proofs.YtbokcihlbpeagaaGreatDoor
