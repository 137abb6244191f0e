/-
  What is proved: a region that draws its order, whose operations yield each a value that is known ahead, and whose world is told by which of its operations have come up, ends as wanted if each operation does so in each such world. Conditions: no two operations write one slot, and every edge leads back.
-/
import Derived.Test.YtbokcihlbpeagaaGreatDoorSsb
namespace Go.Proofs.YtbokcihlbpeagaaGreatDoor

/-- whatever an operation waits for has come up, too -/
def ClosedL (ops : Array Oper) (ls : Nat → Bool) : Prop := ∀ (i : Nat) (o : Oper), ops[i]? = some o → ls i = true → ∀ j, hasEdge o j = true → ls j = true
theorem ClosedL.no {ops : Array Oper} {ls : Nat → Bool} (h : ClosedL ops ls) {i j : Nat} {o : Oper} (hj : ls j = false) (ho : ops[i]? = some o) (he : hasEdge o j = true) : ls i = false := by
  cases hi : ls i with
  | false => rfl
  | true =>
    have := h i o ho hi j he
    rw [hj] at this
    cases this
/-- what is owed of one operation -/
def StepC (P : Program) (ops : Array Oper) (Q : Exit → Act → World → Prop) (a0 : Act) (val : Nat → Value) (W : (Nat → Bool) → World) (i : Nat) (o : Oper) : Prop :=
  ∀ a ls, ClosedL ops ls → ls i = false → (∀ j, hasEdge o j = true → ls j = true) → Off ops a0 a → (∀ j p, ls j = true → ops[j]? = some p → slotOf a p = gotOf p (val j)) →
    (Region.wanted o (yielded ops a.tmps) = true ∧ o.wp P a (W ls) (fun a' w' => a' = a.put o.dst (val i) ∧ w' = W (updB ls i)) Q) ∨ (Region.wanted o (yielded ops a.tmps) = false ∧ gotOf o undef = gotOf o (val i) ∧ W (updB ls i) = W ls)

theorem wp_region_chain {P : Program} {ops : Array Oper} {Q : Exit → Act → World → Prop} {a0 : Act} {w0 : World} {id : Nat} (val : Nat → Value) (W : (Nat → Bool) → World) (hm : P.follows .mixedOrders = true) (hs : ssaB ops a0.tmps.size = true) (h0 : W (fun _ => false) = w0.drew)
    (hstep : Steps (StepC P ops Q a0 val W) 0 ops.toList)
    (hend : ∀ a ls, (∀ i, i < ops.size → ls i = true) → Off ops a0 a → (∀ (i : Nat) (o : Oper), ops[i]? = some o → slotOf a o = gotOf o (val i)) → Q .normal a (W ls)) :
    (Code.region id ops true).wp P Q a0 w0 := by
  have hst : ∀ (i : Nat) (o : Oper), ops[i]? = some o → StepC P ops Q a0 val W i o := fun i o ho => by
    have h := steps_get ops.toList 0 hstep i o (by simpa using ho)
    rwa [Nat.zero_add] at h
  have hall : Steps (StepJ P ops Q a0 (fun i v _ => ∀ o, ops[i]? = some o → v = gotOf o (val i)) (fun _ _ => True) (fun ls w => ClosedL ops ls ∧ w = W ls)) 0 ops.toList := by
    have key : ∀ (l : List Oper) (k : Nat), (∀ (i : Nat) (o : Oper), l[i]? = some o → ops[k + i]? = some o) → Steps (StepJ P ops Q a0 (fun i v _ => ∀ o, ops[i]? = some o → v = gotOf o (val i)) (fun _ _ => True) (fun ls w => ClosedL ops ls ∧ w = W ls)) k l := by
      intro l
      induction l with
      | nil => intro _ _; trivial
      | cons o l ih =>
        intro k hk
        refine ⟨?_, ih (k + 1) (fun i p hp => by have := hk (i + 1) p (by simpa using hp); rwa [Nat.add_assoc, Nat.add_comm 1 i])⟩
        have ho : ops[k]? = some o := by simpa using hk 0 o rfl
        intro a w ls hJ hi hd hoff hf
        obtain ⟨hcl, rfl⟩ := hJ
        have hcl' : ClosedL ops (updB ls k) := by
          intro i p hp hl j hj
          by_cases hik : i = k
          · subst hik
            rw [ho] at hp
            injection hp with hp
            subst hp
            have := hd j hj
            unfold updB
            split
            · rfl
            · exact this
          · rw [updB_other ls hik] at hl
            have := hcl i p hp hl j hj
            unfold updB
            split
            · rfl
            · exact this
        rcases hst k o ho a ls hcl hi hd hoff (fun j p hj hp => hf j p hj hp p hp) with ⟨hw, h⟩ | ⟨hw, h1, h2⟩
        · refine .inl ⟨hw, Oper.wp_mono ?_ h⟩
          rintro a' w' ⟨rfl, rfl⟩
          refine ⟨_, rfl, fun p hp => ?_, trivial, hcl', rfl⟩
          rw [ho] at hp
          injection hp with hp
          subst hp
          rfl
        · refine .inr ⟨hw, fun p hp => ?_, hcl', h2.symm⟩
          rw [ho] at hp
          injection hp with hp
          subst hp
          exact h1
    exact key _ 0 (fun i o h => by simpa using h)
  refine wp_region_stepsJ (fun i v _ => ∀ o, ops[i]? = some o → v = gotOf o (val i)) (fun _ _ => True) (fun ls w => ClosedL ops ls ∧ w = W ls) hm hs (fun _ => trivial) (fun _ _ _ _ h _ => h) ⟨fun _ _ _ h => (by cases h), h0.symm⟩ hall ?_
  rintro a w ls hl ⟨_, rfl⟩ hoff hf
  exact hend a ls hl hoff (fun i o ho => hf i o ho o ho)
end Go.Proofs.YtbokcihlbpeagaaGreatDoor
