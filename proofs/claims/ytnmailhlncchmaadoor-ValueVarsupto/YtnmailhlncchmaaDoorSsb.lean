/-
  What is proved: as in the text on regions that draw their order; here what holds of the world may hang on which operations have come up (a call that changes what a later call reads).
-/
import Derived.Test.YtnmailhlncchmaaDoorSsa
namespace Go.Proofs.YtnmailhlncchmaaDoor

def updB (ls : Nat → Bool) (i : Nat) : Nat → Bool := fun j => if j = i then true else ls j
theorem updB_at (ls : Nat → Bool) (i : Nat) : updB ls i i = true := by simp [updB]
theorem updB_other (ls : Nat → Bool) {i j : Nat} (h : j ≠ i) : updB ls i j = ls j := by simp [updB, h]

section
variable {P : Program} {ops : Array Oper} {Q : Exit → Act → World → Prop} {a0 : Act} {w0 : World} {F : Nat → Value → World → Prop} {R : World → World → Prop} {J : (Nat → Bool) → World → Prop}

structure SInv (ops : Array Oper) (a0 : Act) (F : Nat → Value → World → Prop) (J : (Nat → Bool) → World → Prop) (listed : Array Bool) (a : Act) (w : World) : Prop where
  size : listed.size = ops.size
  off : Off ops a0 a
  rel : J (fun i => listed.getD i false) w
  fact : ∀ (i : Nat) (o : Oper), ops[i]? = some o → listed.getD i false = true → F i (slotOf a o) w

theorem listed_set {listed : Array Bool} {i : Nat} (h : i < listed.size) : (fun j => (listed.setIfInBounds i true).getD j false) = updB (fun j => listed.getD j false) i := by
  funext j
  unfold updB
  by_cases hj : j = i
  · subst hj
    simp [h]
  · simp [hj, Ne.symm hj]

theorem SInv.step (hs : ssaB ops a0.tmps.size = true) (hmono : ∀ i v w w', F i v w → R w w' → F i v w')
    {listed : Array Bool} {a : Act} {w w' : World} (h : SInv ops a0 F J listed a w) {i : Nat} {o : Oper} (ho : ops[i]? = some o) {v : Value} (hF : F i (gotOf o v) w') (hR : R w w') (hJ : J (updB (fun j => listed.getD j false) i) w') :
    SInv ops a0 F J (listed.setIfInBounds i true) (a.put o.dst v) w' := by
  have hi : i < listed.size := by rw [h.size]; exact (Array.getElem?_eq_some_iff.1 ho).1
  refine ⟨by simpa using h.size, ⟨by rw [put_size]; exact h.off.size, by rw [put_defers]; exact h.off.defers, fun t ht => ?_⟩, by rw [listed_set hi]; exact hJ, fun j p hp hl => ?_⟩
  · rw [put_other a o.dst v t (ht i o ho)]
    exact h.off.slot t ht
  · by_cases hji : j = i
    · subst hji
      rw [ho] at hp
      injection hp with hp
      subst hp
      have : slotOf (a.put o.dst v) o = gotOf o v := by
        unfold slotOf gotOf
        cases hd : o.dst with
        | none => rfl
        | some d => exact put_at a d v (by rw [h.off.size]; exact ssa_dst hs ho hd)
      rw [this]
      exact hF
    · have hl' : listed.getD j false = true := by
        simpa [Array.getElem?_setIfInBounds, Ne.symm hji] using hl
      have : slotOf (a.put o.dst v) p = slotOf a p := by
        unfold slotOf
        cases hd : p.dst with
        | none => rfl
        | some d =>
          exact put_other a o.dst v d (fun e => ssa_one hs hp ho hd (Ne.symm hji) e)
      rw [this]
      exact hmono _ _ _ _ (h.fact j p hp hl') hR

/-- an operation has yielded what is said of it, the world has grown, and is as it must be behind it -/
def PutJ (F : Nat → Value → World → Prop) (R : World → World → Prop) (J : (Nat → Bool) → World → Prop) (ls : Nat → Bool) (i : Nat) (o : Oper) (a : Act) (w : World) (a' : Act) (w' : World) : Prop :=
  ∃ v, a' = a.put o.dst v ∧ F i (gotOf o v) w' ∧ R w w' ∧ J (updB ls i) w'
/-- what is owed of one operation -/
def StepJ (P : Program) (ops : Array Oper) (Q : Exit → Act → World → Prop) (a0 : Act) (F : Nat → Value → World → Prop) (R : World → World → Prop) (J : (Nat → Bool) → World → Prop) (i : Nat) (o : Oper) : Prop :=
  ∀ a w ls, J ls w → ls i = false → (∀ j, hasEdge o j = true → ls j = true) → Off ops a0 a → (∀ j p, ls j = true → ops[j]? = some p → F j (slotOf a p) w) →
      (Region.wanted o (yielded ops a.tmps) = true ∧ o.wp P a w (PutJ F R J ls i o a w) Q) ∨ (Region.wanted o (yielded ops a.tmps) = false ∧ F i (gotOf o undef) w ∧ J (updB ls i) w)

theorem wpAny_ssj (hs : ssaB ops a0.tmps.size = true) (hmono : ∀ i v w w', F i v w → R w w' → F i v w') (hrefl : ∀ w, R w w)
    (hstep : ∀ (i : Nat) (o : Oper), ops[i]? = some o → StepJ P ops Q a0 F R J i o)
    (hend : ∀ a w ls, (∀ i, i < ops.size → ls i = true) → J ls w → Off ops a0 a → (∀ (i : Nat) (o : Oper), ops[i]? = some o → F i (slotOf a o) w) → Q .normal a w) :
    ∀ (fuel : Nat) (listed : Array Bool) (a : Act) (w : World), listed.toList.count false ≤ fuel → SInv ops a0 F J listed a w → wpAny P .any ops Q fuel listed a w := by
  intro fuel
  have fin : ∀ (listed : Array Bool) (a : Act) (w : World), SInv ops a0 F J listed a w → Region.ready .any ops listed = [] → Q .normal a w := by
    intro listed a w h hr
    have hall := all_listed hs h.size hr
    exact hend a w _ hall h.rel h.off (fun i o ho => h.fact i o ho (hall i (Array.getElem?_eq_some_iff.1 ho).1))
  induction fuel with
  | zero =>
    intro listed a w hc h
    have hr : Region.ready .any ops listed = [] := by
      unfold Region.ready
      rw [List.filter_eq_nil_iff]
      intro i hi
      have hi' : i < listed.size := by rw [h.size]; exact List.mem_range.1 hi
      have hnf : false ∉ listed.toList := by
        intro hm
        have := List.count_pos_iff.2 hm
        omega
      have hl : listed[i] = true := by
        cases hx : listed[i] with
        | true => rfl
        | false => exact absurd (by rw [← hx]; simp) hnf
      simp [hi', hl]
    exact ⟨hr, fin _ _ _ h hr⟩
  | succ fuel ih =>
    intro listed a w hc h
    refine ⟨fin _ _ _ h, fun i hi => ?_⟩
    unfold Region.ready at hi
    rw [List.mem_filter] at hi
    obtain ⟨hi1, hi2⟩ := hi
    have hlt : i < ops.size := List.mem_range.1 hi1
    have hlt' : i < listed.size := by rw [h.size]; exact hlt
    have ho : ops[i]? = some ops[i] := Array.getElem?_eq_getElem hlt
    rw [ho] at hi2
    simp only [Bool.and_eq_true, Option.map_some, Option.getD_some, Array.all_eq_true'] at hi2
    obtain ⟨hul, hdeps⟩ := hi2
    have hul' : listed[i] = false := by
      simpa [hlt'] using hul
    have hcount : (listed.setIfInBounds i true).toList.count false ≤ fuel := by
      have e : (listed.setIfInBounds i true).toList = listed.toList.set i true := by simp
      have hlen : i < listed.toList.length := by simpa using hlt'
      have h0 : listed.toList[i] = false := by simpa using hul'
      rw [e, List.count_set hlen, h0]
      have hp : 0 < listed.toList.count false := List.count_pos_iff.2 (by rw [← h0]; exact List.getElem_mem hlen)
      simp only [beq_self_eq_true, if_true, show (true == false) = false from rfl, Bool.false_eq_true, if_false]
      omega
    have hd : ∀ j, hasEdge ops[i] j = true → listed.getD j false = true := by
      intro j hj
      obtain ⟨e, he, hj⟩ := List.any_eq_true.1 hj
      simp only [Bool.and_eq_true, beq_iff_eq] at hj
      obtain ⟨rfl, hb⟩ := hj
      have := hdeps e (by simpa using he)
      rw [hb] at this
      simpa using this
    have hli : listed.getD i false = false := by simp [hlt', hul']
    unfold wpOp
    simp only [ho]
    rcases hstep i ops[i] ho a w _ h.rel hli hd h.off (fun j p hj hp => h.fact j p hp hj) with ⟨hw, hwp⟩ | ⟨hw, hf, hJ⟩
    · rw [if_pos hw]
      refine .inl (Oper.wp_mono ?_ hwp)
      rintro a' w' ⟨v, rfl, hF, hR, hJ⟩
      exact ih _ _ _ hcount (h.step hs hmono ho hF hR hJ)
    · rw [if_neg (by rw [hw]; decide)]
      exact ih _ _ _ hcount (h.step hs hmono ho hf (hrefl w) hJ)

/-- A REGION THAT DRAWS ITS ORDER, operation by operation, with what holds of the world told by what has come up. -/
theorem wp_region_stepsJ {id : Nat} (F : Nat → Value → World → Prop) (R : World → World → Prop) (J : (Nat → Bool) → World → Prop) (hm : P.follows .mixedOrders = true) (hs : ssaB ops a0.tmps.size = true)
    (hrefl : ∀ w, R w w) (hmono : ∀ i v w w', F i v w → R w w' → F i v w') (h0 : J (fun _ => false) w0.drew)
    (hstep : Steps (StepJ P ops Q a0 F R J) 0 ops.toList)
    (hend : ∀ a w ls, (∀ i, i < ops.size → ls i = true) → J ls w → Off ops a0 a → (∀ (i : Nat) (o : Oper), ops[i]? = some o → F i (slotOf a o) w) → Q .normal a w) :
    (Code.region id ops true).wp P Q a0 w0 := by
  refine wp_region_any hm (wpAny_ssj hs hmono hrefl (fun i o ho => ?_) hend ops.size _ a0 w0.drew ?_ ?_)
  · have h := steps_get ops.toList 0 hstep i o (by simpa using ho)
    rwa [Nat.zero_add] at h
  · simp
  · have hf : (fun i => (Array.replicate ops.size false).getD i false) = fun _ => false := by
      funext i
      by_cases hi : i < ops.size <;> simp [hi]
    refine ⟨by simp, ⟨rfl, rfl, fun _ _ => rfl⟩, by rw [hf]; exact h0, fun i o ho hl => ?_⟩
    have hi : i < ops.size := (Array.getElem?_eq_some_iff.1 ho).1
    simp [hi] at hl
end

/-! ### the frame behind such a region, written out again -/
def fillFrom (ys : Nat → Value) : Nat → List Bool → List Value → List Value
  | k, true :: ms, _ :: vs => ys k :: fillFrom ys (k + 1) ms vs
  | k, false :: ms, v :: vs => v :: fillFrom ys (k + 1) ms vs
  | _, _, _ => []
def maskOf (ops : Array Oper) (n : Nat) : List Bool := (List.range n).map fun t => ops.toList.any fun o => o.dst == some t
theorem fill_length (ys : Nat → Value) : ∀ (ms : List Bool) (vs : List Value) (k : Nat), ms.length = vs.length → (fillFrom ys k ms vs).length = vs.length
  | [], vs, k, h => by
    cases vs with
    | nil => rfl
    | cons v vs => simp at h
  | m :: ms, vs, k, h => by
    cases vs with
    | nil => simp at h
    | cons v vs =>
      have := fill_length ys ms vs (k + 1) (by simpa using h)
      cases m <;> simp [fillFrom, this]
theorem fill_get (ys : Nat → Value) : ∀ (ms : List Bool) (vs : List Value) (k : Nat) (_ : ms.length = vs.length) (j : Nat) (hj : j < vs.length) (hj1 : j < ms.length) (hj2 : j < (fillFrom ys k ms vs).length), (fillFrom ys k ms vs)[j] = if ms[j] then ys (k + j) else vs[j]
  | [], vs, k, h, j, hj, hj1, hj2 => by simp at hj1
  | m :: ms, vs, k, h, j, hj, hj1, hj2 => by
    cases vs with
    | nil => simp at hj
    | cons v vs =>
      cases j with
      | zero => cases m <;> simp [fillFrom]
      | succ j =>
        have := fill_get ys ms vs (k + 1) (by simpa using h) j (by simpa using hj) (by simpa using hj1) (by rw [fill_length ys ms vs (k + 1) (by simpa using h)]; simpa using hj)
        have e : k + 1 + j = k + (j + 1) := by omega
        cases m <;> simp [fillFrom, this, e]
theorem off_form {ops : Array Oper} {a0 a : Act} (h : Off ops a0 a) {mask : List Bool} (hm : maskOf ops a0.tmps.size = mask) :
    ∃ ys : Nat → Value, (∀ k, a.tmps.getD k undef = ys k) ∧ a = { tmps := (fillFrom ys 0 mask a0.tmps.toList).toArray, defers := a0.defers } := by
  refine ⟨fun k => a.tmps.getD k undef, fun _ => rfl, ?_⟩
  subst hm
  have hlen : (maskOf ops a0.tmps.size).length = a0.tmps.toList.length := by simp [maskOf]
  obtain ⟨ts, ds⟩ := a
  have h1 := h.size
  have h2 := h.defers
  simp only at h1 h2 ⊢
  subst h2
  have key : ts.toList = fillFrom (fun k => ts.getD k undef) 0 (maskOf ops a0.tmps.size) a0.tmps.toList := by
    apply List.ext_getElem
    · rw [fill_length _ _ _ _ hlen]
      simpa using h1
    intro j hj hj'
    have hj : j < ts.size := by simpa using hj
    have hj0 : j < a0.tmps.toList.length := by simpa [h1] using hj
    rw [fill_get _ _ _ _ hlen j hj0 (by rw [hlen]; exact hj0)]
    rw [Nat.zero_add]
    split
    · simp
    · rename_i hmk
      have hnd : ∀ (i : Nat) (o : Oper), ops[i]? = some o → o.dst ≠ some j := by
        intro i o ho he
        apply hmk
        simp only [maskOf, List.getElem_map, List.getElem_range]
        rw [List.any_eq_true]
        exact ⟨o, by rw [Array.getElem?_eq_some_iff] at ho; obtain ⟨hlt, rfl⟩ := ho; simp, by simp [he]⟩
      have := h.slot j hnd
      have hj3 : j < a0.tmps.size := by simpa using hj0
      simpa [hj, hj3] using this
  rw [← key]
end Go.Proofs.YtnmailhlncchmaaDoor
