/-
  What is proved: a region that draws its order ends as wanted if each of its operations, run in whatever world has grown till then, yields what is said of it, and what is said stays true while the world grows. Conditions: no two operations write one slot, and every edge leads back.
-/
import Derived.Orders
import Derived.RegionTactic
namespace Go.Proofs.YtnmailhlncchmaaDoor

/-- what lies in an operation's slot -/
def slotOf (a : Act) (o : Oper) : Value :=
  match o.dst with
  | some d => a.tmps.getD d undef
  | none => undef
/-- what an operation that yields v leaves in its slot -/
def gotOf (o : Oper) (v : Value) : Value :=
  match o.dst with
  | some _ => v
  | none => undef
def backB (ops : Array Oper) (n i : Nat) (o : Oper) : Bool :=
  (o.after.toList.all fun e => !Region.binds .any e || decide (e.on < i)) &&
  (match o.dst with
   | none => true
   | some d => decide (d < n) && (List.range i).all fun j => match ops[j]? with | none => true | some p => p.dst != some d)
def ssaB (ops : Array Oper) (n : Nat) : Bool :=
  (List.range ops.size).all fun i => match ops[i]? with | none => true | some o => backB ops n i o
/-- slots that the region does not write are as they were -/
structure Off (ops : Array Oper) (a0 a : Act) : Prop where
  size : a.tmps.size = a0.tmps.size
  defers : a.defers = a0.defers
  slot : ∀ t : Tmp, (∀ (i : Nat) (o : Oper), ops[i]? = some o → o.dst ≠ some t) → a.tmps.getD t undef = a0.tmps.getD t undef

theorem ssa_at {ops : Array Oper} {n : Nat} (h : ssaB ops n = true) {i : Nat} {o : Oper} (ho : ops[i]? = some o) : backB ops n i o = true := by
  have hi : i < ops.size := (Array.getElem?_eq_some_iff.1 ho).1
  have := List.all_eq_true.1 h i (List.mem_range.2 hi)
  simpa only [ho] using this
theorem ssa_edge {ops : Array Oper} {n : Nat} (h : ssaB ops n = true) {i : Nat} {o : Oper} (ho : ops[i]? = some o) {e : Edge} (he : e ∈ o.after) (hb : Region.binds .any e = true) : e.on < i := by
  have := ssa_at h ho
  simp only [backB, Bool.and_eq_true, List.all_eq_true] at this
  have := this.1 e (by simpa using he)
  rw [hb] at this
  simpa using this
theorem ssa_dst {ops : Array Oper} {n : Nat} (h : ssaB ops n = true) {i : Nat} {o : Oper} (ho : ops[i]? = some o) {d : Tmp} (hd : o.dst = some d) : d < n := by
  have := ssa_at h ho
  simp only [backB, hd, Bool.and_eq_true] at this
  simpa using this.2.1
theorem ssa_one_lt {ops : Array Oper} {n : Nat} (h : ssaB ops n = true) {i j : Nat} {o p : Oper} (ho : ops[i]? = some o) (hp : ops[j]? = some p) {d : Tmp} (hd : o.dst = some d) (hlt : j < i) : p.dst ≠ some d := by
  have := ssa_at h ho
  simp only [backB, hd, Bool.and_eq_true, List.all_eq_true] at this
  have := this.2.2 j (List.mem_range.2 hlt)
  simpa [hp] using this
theorem ssa_one {ops : Array Oper} {n : Nat} (h : ssaB ops n = true) {i j : Nat} {o p : Oper} (ho : ops[i]? = some o) (hp : ops[j]? = some p) {d : Tmp} (hd : o.dst = some d) (hne : j ≠ i) : p.dst ≠ some d := by
  rcases Nat.lt_or_ge j i with hlt | hge
  · exact ssa_one_lt h ho hp hd hlt
  · intro hd2
    exact ssa_one_lt h hp ho hd2 (by omega) hd

theorem put_size (a : Act) (d : Option Tmp) (v : Value) : (a.put d v).tmps.size = a.tmps.size := by
  cases d <;> simp [Act.put]
theorem put_defers (a : Act) (d : Option Tmp) (v : Value) : (a.put d v).defers = a.defers := by
  cases d <;> rfl
theorem put_at (a : Act) (d : Tmp) (v : Value) (h : d < a.tmps.size) : (a.put (some d) v).tmps.getD d undef = v := by
  simp [Act.put, h]
theorem put_other (a : Act) (d : Option Tmp) (v : Value) (t : Tmp) (h : d ≠ some t) : (a.put d v).tmps.getD t undef = a.tmps.getD t undef := by
  cases d with
  | none => rfl
  | some d =>
    have hne : d ≠ t := fun e => h (by rw [e])
    simp [Act.put, hne]

section
variable {P : Program} {ops : Array Oper} {Q : Exit → Act → World → Prop} {a0 : Act} {w0 : World} {F : Nat → Value → World → Prop} {R : World → World → Prop}

/-- what is known of the operations that have come up -/
structure RInv (ops : Array Oper) (a0 : Act) (w0 : World) (F : Nat → Value → World → Prop) (R : World → World → Prop) (listed : Array Bool) (a : Act) (w : World) : Prop where
  size : listed.size = ops.size
  off : Off ops a0 a
  rel : R w0 w
  fact : ∀ (i : Nat) (o : Oper), ops[i]? = some o → listed.getD i false = true → F i (slotOf a o) w

theorem RInv.step (hs : ssaB ops a0.tmps.size = true) (hmono : ∀ i v w w', F i v w → R w w' → F i v w') (htrans : ∀ w1 w2 w3, R w1 w2 → R w2 w3 → R w1 w3)
    {listed : Array Bool} {a : Act} {w w' : World} (h : RInv ops a0 w0 F R listed a w) {i : Nat} {o : Oper} (ho : ops[i]? = some o) {v : Value} (hF : F i (gotOf o v) w') (hR : R w w') :
    RInv ops a0 w0 F R (listed.setIfInBounds i true) (a.put o.dst v) w' := by
  refine ⟨by simpa using h.size, ⟨by rw [put_size]; exact h.off.size, by rw [put_defers]; exact h.off.defers, fun t ht => ?_⟩, htrans _ _ _ h.rel hR, fun j p hp hl => ?_⟩
  · rw [put_other a o.dst v t (ht i o ho)]
    exact h.off.slot t ht
  · by_cases hji : j = i
    · subst hji
      rw [ho] at hp
      injection hp with hp
      subst hp
      have : slotOf (a.put o.dst v) o = gotOf o v := by
        unfold slotOf gotOf
        cases hd : o.dst with
        | none => rfl
        | some d => exact put_at a d v (by rw [h.off.size]; exact ssa_dst hs ho hd)
      rw [this]
      exact hF
    · have hl' : listed.getD j false = true := by
        simpa [Array.getElem?_setIfInBounds, Ne.symm hji] using hl
      have : slotOf (a.put o.dst v) p = slotOf a p := by
        unfold slotOf
        cases hd : p.dst with
        | none => rfl
        | some d =>
          exact put_other a o.dst v d (fun e => ssa_one hs hp ho hd (Ne.symm hji) e)
      rw [this]
      exact hmono _ _ _ _ (h.fact j p hp hl') hR

theorem all_listed (hs : ssaB ops a0.tmps.size = true) {listed : Array Bool} (hsz : listed.size = ops.size) (hr : Region.ready .any ops listed = []) : ∀ i, i < ops.size → listed.getD i false = true := by
  intro i
  induction i using Nat.strongRecOn with
  | ind i ih =>
    intro hi
    cases hl : listed.getD i false with
    | true => rfl
    | false =>
      exfalso
      have ho : ops[i]? = some ops[i] := Array.getElem?_eq_getElem hi
      have hmem : i ∈ Region.ready .any ops listed := by
        unfold Region.ready
        rw [List.mem_filter]
        refine ⟨List.mem_range.2 hi, ?_⟩
        have hlt : i < listed.size := by omega
        have hl' : listed.getD i true = false := by
          simp [hlt] at hl ⊢
          exact hl
        rw [hl', ho]
        simp only [Bool.not_false, Bool.true_and, Option.map_some, Option.getD_some]
        rw [Array.all_eq_true']
        intro e he
        cases hb : Region.binds .any e with
        | false => simp
        | true =>
          have := ssa_edge hs ho he hb
          rw [ih e.on this (by omega)]
          simp
      rw [hr] at hmem
      cases hmem

theorem wpAny_ssa (hs : ssaB ops a0.tmps.size = true) (hmono : ∀ i v w w', F i v w → R w w' → F i v w') (htrans : ∀ w1 w2 w3, R w1 w2 → R w2 w3 → R w1 w3)
    (hrefl : ∀ w, R w w)
    (hstep : ∀ (i : Nat) (o : Oper), ops[i]? = some o → ∀ a w, R w0 w → Off ops a0 a → (∀ e ∈ o.after, Region.binds .any e = true → ∀ p, ops[e.on]? = some p → F e.on (slotOf a p) w) →
      (Region.wanted o (yielded ops a.tmps) = true ∧ o.wp P a w (fun a' w' => ∃ v, a' = a.put o.dst v ∧ F i (gotOf o v) w' ∧ R w w') Q) ∨ (Region.wanted o (yielded ops a.tmps) = false ∧ F i (gotOf o undef) w))
    (hend : ∀ a w, R w0 w → Off ops a0 a → (∀ (i : Nat) (o : Oper), ops[i]? = some o → F i (slotOf a o) w) → Q .normal a w) :
    ∀ (fuel : Nat) (listed : Array Bool) (a : Act) (w : World), listed.toList.count false ≤ fuel → RInv ops a0 w0 F R listed a w → wpAny P .any ops Q fuel listed a w := by
  intro fuel
  have fin : ∀ (listed : Array Bool) (a : Act) (w : World), RInv ops a0 w0 F R listed a w → Region.ready .any ops listed = [] → Q .normal a w := by
    intro listed a w h hr
    refine hend a w h.rel h.off (fun i o ho => h.fact i o ho ?_)
    exact all_listed hs h.size hr i (Array.getElem?_eq_some_iff.1 ho).1
  induction fuel with
  | zero =>
    intro listed a w hc h
    have hr : Region.ready .any ops listed = [] := by
      unfold Region.ready
      rw [List.filter_eq_nil_iff]
      intro i hi
      have hi' : i < listed.size := by rw [h.size]; exact List.mem_range.1 hi
      have hnf : false ∉ listed.toList := by
        intro hm
        have := List.count_pos_iff.2 hm
        omega
      have hl : listed[i] = true := by
        cases hx : listed[i] with
        | true => rfl
        | false => exact absurd (by rw [← hx]; simp) hnf
      simp [hi', hl]
    exact ⟨hr, fin _ _ _ h hr⟩
  | succ fuel ih =>
    intro listed a w hc h
    refine ⟨fin _ _ _ h, fun i hi => ?_⟩
    unfold Region.ready at hi
    rw [List.mem_filter] at hi
    obtain ⟨hi1, hi2⟩ := hi
    have hlt : i < ops.size := List.mem_range.1 hi1
    have hlt' : i < listed.size := by rw [h.size]; exact hlt
    have ho : ops[i]? = some ops[i] := Array.getElem?_eq_getElem hlt
    rw [ho] at hi2
    simp only [Bool.and_eq_true, Option.map_some, Option.getD_some, Array.all_eq_true'] at hi2
    obtain ⟨hul, hdeps⟩ := hi2
    have hul' : listed[i] = false := by
      simpa [hlt'] using hul
    have hcount : (listed.setIfInBounds i true).toList.count false ≤ fuel := by
      have e : (listed.setIfInBounds i true).toList = listed.toList.set i true := by simp
      have hlen : i < listed.toList.length := by simpa using hlt'
      have h0 : listed.toList[i] = false := by simpa using hul'
      rw [e, List.count_set hlen, h0]
      have hp : 0 < listed.toList.count false := List.count_pos_iff.2 (by rw [← h0]; exact List.getElem_mem hlen)
      simp only [beq_self_eq_true, if_true, show (true == false) = false from rfl, Bool.false_eq_true, if_false]
      omega
    have hd : ∀ e ∈ ops[i].after, Region.binds .any e = true → ∀ p, ops[e.on]? = some p → F e.on (slotOf a p) w := by
      intro e he hb p hp
      have := hdeps e he
      rw [hb] at this
      exact h.fact e.on p hp (by simpa using this)
    unfold wpOp
    simp only [ho]
    rcases hstep i ops[i] ho a w h.rel h.off hd with ⟨hw, hwp⟩ | ⟨hw, hf⟩
    · rw [if_pos hw]
      refine .inl (Oper.wp_mono ?_ hwp)
      rintro a' w' ⟨v, rfl, hF, hR⟩
      exact ih _ _ _ hcount (h.step hs hmono htrans ho hF hR)
    · rw [if_neg (by rw [hw]; decide)]
      exact ih _ _ _ hcount (h.step hs hmono htrans ho hf (hrefl w))

/-- A REGION THAT DRAWS ITS ORDER, operation by operation. -/
theorem wp_region_ssa {id : Nat} (F : Nat → Value → World → Prop) (R : World → World → Prop) (hm : P.follows .mixedOrders = true) (hs : ssaB ops a0.tmps.size = true)
    (hrefl : ∀ w, R w w) (htrans : ∀ w1 w2 w3, R w1 w2 → R w2 w3 → R w1 w3) (hmono : ∀ i v w w', F i v w → R w w' → F i v w')
    (hstep : ∀ (i : Nat) (o : Oper), ops[i]? = some o → ∀ a w, R w0.drew w → Off ops a0 a → (∀ e ∈ o.after, Region.binds .any e = true → ∀ p, ops[e.on]? = some p → F e.on (slotOf a p) w) →
      (Region.wanted o (yielded ops a.tmps) = true ∧ o.wp P a w (fun a' w' => ∃ v, a' = a.put o.dst v ∧ F i (gotOf o v) w' ∧ R w w') Q) ∨ (Region.wanted o (yielded ops a.tmps) = false ∧ F i (gotOf o undef) w))
    (hend : ∀ a w, R w0.drew w → Off ops a0 a → (∀ (i : Nat) (o : Oper), ops[i]? = some o → F i (slotOf a o) w) → Q .normal a w) :
    (Code.region id ops true).wp P Q a0 w0 := by
  refine wp_region_any hm (wpAny_ssa (w0 := w0.drew) hs hmono htrans hrefl hstep hend ops.size _ a0 w0.drew ?_ ?_)
  · simp
  · refine ⟨by simp, ⟨rfl, rfl, fun _ _ => rfl⟩, hrefl _, fun i o ho hl => ?_⟩
    have hi : i < ops.size := (Array.getElem?_eq_some_iff.1 ho).1
    simp [hi] at hl

/-- an operation has yielded what is said of it, and the world has grown -/
def Put (F : Nat → Value → World → Prop) (R : World → World → Prop) (i : Nat) (o : Oper) (a : Act) (w : World) (a' : Act) (w' : World) : Prop := ∃ v, a' = a.put o.dst v ∧ F i (gotOf o v) w' ∧ R w w'
def hasEdge (o : Oper) (j : Nat) : Bool := o.after.toList.any fun e => e.on == j && Region.binds .any e
/-- what is owed of one operation -/
def Step (P : Program) (ops : Array Oper) (Q : Exit → Act → World → Prop) (a0 : Act) (w0 : World) (F : Nat → Value → World → Prop) (R : World → World → Prop) (i : Nat) (o : Oper) : Prop :=
  ∀ a w, R w0.drew w → Off ops a0 a → (∀ j p, hasEdge o j = true → ops[j]? = some p → F j (slotOf a p) w) →
      (Region.wanted o (yielded ops a.tmps) = true ∧ o.wp P a w (Put F R i o a w) Q) ∨ (Region.wanted o (yielded ops a.tmps) = false ∧ F i (gotOf o undef) w)
def Steps (S : Nat → Oper → Prop) : Nat → List Oper → Prop
  | _, [] => True
  | k, o :: l => S k o ∧ Steps S (k + 1) l
theorem steps_get {S : Nat → Oper → Prop} : ∀ (l : List Oper) (k : Nat), Steps S k l → ∀ (i : Nat) (o : Oper), l[i]? = some o → S (k + i) o
  | [], _, _, i, o, h => by simp at h
  | x :: l, k, hs, i, o, h => by
    cases i with
    | zero =>
      simp at h
      subst h
      exact hs.1
    | succ i =>
      have := steps_get l (k + 1) hs.2 i o (by simpa using h)
      rwa [Nat.add_assoc, Nat.add_comm 1 i] at this

theorem wp_region_steps {id : Nat} (F : Nat → Value → World → Prop) (R : World → World → Prop) (hm : P.follows .mixedOrders = true) (hs : ssaB ops a0.tmps.size = true)
    (hrefl : ∀ w, R w w) (htrans : ∀ w1 w2 w3, R w1 w2 → R w2 w3 → R w1 w3) (hmono : ∀ i v w w', F i v w → R w w' → F i v w')
    (hstep : Steps (Step P ops Q a0 w0 F R) 0 ops.toList)
    (hend : ∀ a w, R w0.drew w → Off ops a0 a → (∀ (i : Nat) (o : Oper), ops[i]? = some o → F i (slotOf a o) w) → Q .normal a w) :
    (Code.region id ops true).wp P Q a0 w0 := by
  refine wp_region_ssa F R hm hs hrefl htrans hmono (fun i o ho a w hR hoff hd => ?_) hend
  have h := steps_get ops.toList 0 hstep i o (by simpa using ho)
  rw [Nat.zero_add] at h
  refine h a w hR hoff (fun j p hj hp => ?_)
  obtain ⟨e, he, hj⟩ := List.any_eq_true.1 hj
  simp only [Bool.and_eq_true, beq_iff_eq] at hj
  obtain ⟨rfl, hb⟩ := hj
  exact hd e (by simpa using he) hb p hp

theorem wanted_of {o : Oper} {a : Act} {j : Nat} {b : Bool} {p : Oper} {d : Tmp} (hg : o.guard = some (j, b)) (hp : ops[j]? = some p) (hd : p.dst = some d) (h : a.tmps.getD d undef = .bool b) : Region.wanted o (yielded ops a.tmps) = true := by
  have h' : a.tmps[d]? = some (.bool b) := by
    cases hx : a.tmps[d]? with
    | none => simp [hx, undef] at h
    | some x => simp [hx] at h; rw [h]
  simp [Region.wanted, hg, yielded, hp, hd, h']
theorem wp_value {o : Oper} {a : Act} {w w' : World} {v : Value} {K : Act → World → Prop} (h : (execOp a.eval o).run P w = .ok (.value v) w') (hK : K (a.put o.dst v) w') : o.wp P a w K Q := by
  unfold Oper.wp
  rw [h]
  exact hK
end
end Go.Proofs.YtnmailhlncchmaaDoor
