/-
  What is proved: plain mathematics of markup, second part: references, pieces, texts, values, tags, and a document's marks, zs functions on lists of bytes. Conditions: those in each statement.
-/
import Derived.Test.YtbokcihlbpeagaaGreatDoorMm
import Derived.Lib.IndexMore
namespace Go.Proofs.YtbokcihlbpeagaaGreatDoor

section
variable {α β : Type}
/-- one behind the other: the rest of the list, and how much was taken -/
def Out.seq (o : Out α) (l : List UInt8) (g : α → Nat → List UInt8 → Out β) : Out β := match o with
  | .ok a n => (g a n (l.drop n)).on n
  | .bad d c => .bad d c
  | .un => .un
/-- so many bytes more are taken behind it -/
def Out.more (o : Nat) : Out α → Out α
  | .ok a n => .ok a (n + o)
  | .bad d c => .bad d c
  | .un => .un
/-- what has no end is a fault at its own first byte -/
def Out.fin : Out α → Out α
  | .ok a n => .ok a n
  | .bad d c => .bad d c
  | .un => .bad 0 84
def Out.pres (zs : List α) (o : Nat) : Out (List α) → Out (List α)
  | .ok bs n => .ok (zs ++ bs) (n + o)
  | .bad d c => .bad (d + o) c
  | .un => .un
theorem Out.pres_nil (o : Out (List α)) : o.pres [] 0 = o := by cases o <;> rfl
theorem Out.pres_pres (zs bs : List α) (m n : Nat) (o : Out (List α)) : (o.pres bs n).pres zs m = o.pres (zs ++ bs) (m + n) := by
  cases o <;> simp [Out.pres, Nat.add_comm, Nat.add_left_comm]

/-- step by step till it stops; k: where the list begins -/
def loopF (stop : List UInt8 → Bool) (step : Nat → List UInt8 → Out α) : Nat → Nat → List UInt8 → Out (List α)
  | 0, _, _ => .ok [] 0
  | n + 1, k, l => if stop l = true then .ok [] 0 else match step k l with
    | .ok a m => (loopF stop step n (k + m) (l.drop m)).pres [a] m
    | .bad d c => .bad d c
    | .un => .un
def loop (stop : List UInt8 → Bool) (step : Nat → List UInt8 → Out α) (k : Nat) (l : List UInt8) : Out (List α) := loopF stop step (l.length + 1) k l
/-- each step takes something, and no more than there is -/
def Good (stop : List UInt8 → Bool) (step : Nat → List UInt8 → Out α) : Prop := ∀ k l a m, stop l = false → step k l = .ok a m → 1 ≤ m ∧ m ≤ l.length
variable {stop : List UInt8 → Bool} {step : Nat → List UInt8 → Out α}
theorem loopF_more (G : Good stop step) (m : Nat) : ∀ (n k : Nat) (l : List UInt8), l.length < m → l.length < n → loopF stop step m k l = loopF stop step n k l := by
  induction m with
  | zero => intro n k l h; omega
  | succ m ih =>
    intro n k l hm hn
    cases n with
    | zero => omega
    | succ n =>
      simp only [loopF]
      by_cases hs : stop l = true
      · rw [if_pos hs, if_pos hs]
      · rw [if_neg hs, if_neg hs]
        cases hq : step k l with
        | ok a j =>
          have h1 := G k l a j (by simpa using hs) hq
          simp only
          rw [ih n (k + j) (l.drop j) (by rw [List.length_drop]; omega) (by rw [List.length_drop]; omega)]
        | bad d c => rfl
        | un => rfl
theorem loop_stop (k : Nat) {l : List UInt8} (h : stop l = true) : loop stop step k l = .ok [] 0 := by
  unfold loop; rw [loopF, if_pos h]
theorem loop_ok (G : Good stop step) {k : Nat} {l : List UInt8} {a : α} {m : Nat} (h : stop l = false) (hq : step k l = .ok a m) : loop stop step k l = (loop stop step (k + m) (l.drop m)).pres [a] m := by
  have h1 := G k l a m h hq
  unfold loop
  rw [loopF, if_neg (by simp [h]), hq]
  simp only
  rw [loopF_more G l.length ((l.drop m).length + 1) _ _ (by rw [List.length_drop]; omega) (by omega)]
theorem loop_bad {k : Nat} {l : List UInt8} {d : Nat} {c : Int} (h : stop l = false) (hq : step k l = .bad d c) : loop stop step k l = .bad d c := by
  unfold loop; rw [loopF, if_neg (by simp [h]), hq]
theorem loop_un {k : Nat} {l : List UInt8} (h : stop l = false) (hq : step k l = .un) : loop stop step k l = .un := by
  unfold loop; rw [loopF, if_neg (by simp [h]), hq]
theorem loopF_le (G : Good stop step) (m : Nat) : ∀ (k : Nat) (l : List UInt8) (zs : List α) (n : Nat), loopF stop step m k l = .ok zs n → n ≤ l.length := by
  induction m with
  | zero => intro k l zs n h; simp [loopF] at h; omega
  | succ m ih =>
    intro k l zs n h
    simp only [loopF] at h
    by_cases hs : stop l = true
    · rw [if_pos hs] at h; cases h; omega
    · rw [if_neg hs] at h
      cases hq : step k l with
      | ok a j =>
        have h1 := G k l a j (by simpa using hs) hq
        rw [hq] at h
        simp only at h
        cases hr : loopF stop step m (k + j) (l.drop j) with
        | ok bs i =>
          rw [hr] at h
          simp only [Out.pres] at h
          cases h
          have := ih _ _ _ _ hr
          rw [List.length_drop] at this
          omega
        | bad d c => rw [hr] at h; cases h
        | un => rw [hr] at h; cases h
      | bad d c => rw [hq] at h; cases h
      | un => rw [hq] at h; cases h
theorem loop_le (G : Good stop step) {k : Nat} {l : List UInt8} {zs : List α} {n : Nat} (h : loop stop step k l = .ok zs n) : n ≤ l.length := loopF_le G _ _ _ _ _ h
end

/-- a digit's worth -/
def digv (B c : Nat) : Option Nat :=
  let d := if 48 ≤ c ∧ c ≤ 57 then c - 48 else if 97 ≤ c ∧ c ≤ 102 then c - 87 else if 65 ≤ c ∧ c ≤ 70 then c - 55 else 99
  if d < B then some d else none
/-- the number of digits -/
def numA (B : Nat) : Nat → List UInt8 → Option Nat
  | acc, [] => some acc
  | acc, c :: t => match digv B c.toNat with
    | some d => numA B (acc * B + d) t
    | none => none
/-- what a number's digits mean -/
def meanN (B : Nat) (l : List UInt8) : List UInt8 := if l = [] ∨ 8 < l.length then [] else match numA B 0 l with
  | some n => if isC (n : Int) then put (n : Int) else []
  | none => []
/-- what a reference means, whose bytes ahead of the ; are these; nothing: there is none -/
def mean (x : List UInt8) : List UInt8 :=
  if x = [38, 108, 116] then [60] else if x = [38, 103, 116] then [62] else if x = [38, 97, 109, 112] then [38]
  else if x = [38, 97, 112, 111, 115] then [39] else if x = [38, 113, 117, 111, 116] then [34]
  else if Lib.hasPrefix x [38, 35, 120] = true then meanN 16 (x.drop 3)
  else if Lib.hasPrefix x [38, 35] = true then meanN 10 (x.drop 2) else []
def refO (l : List UInt8) : Out (List UInt8) :=
  if 0 ≤ Lib.index l [59] ∧ mean (l.take (Lib.index l [59]).toNat) ≠ [] then .ok (mean (l.take (Lib.index l [59]).toNat)) ((Lib.index l [59]).toNat + 1) else .bad 0 83
def pieceO (l : List UInt8) : Out (List UInt8) :=
  if hd l = 38 then refO l else if hd l = 13 then .ok [10] (if hd (l.drop 1) = 10 then 2 else 1) else .ok (l.take 1) 1
def stopT (l : List UInt8) : Bool := l.isEmpty || hd l == 60
def textO (l : List UInt8) : Out (List UInt8) := (loop stopT (fun _ => pieceO) 0 l).map List.flatten
def stopV (q : Nat) (l : List UInt8) : Bool := hd l == q
def stepV (l : List UInt8) : Out (List UInt8) :=
  if hd l = 60 ∨ hd l = 0 then wrongO l else if isW (hd l) = true then (pieceO l).map (fun _ => [32]) else pieceO l
def valueO (l : List UInt8) : Out (List UInt8) :=
  if hd l ≠ 34 ∧ hd l ≠ 39 then wrongO l else (((loop (stopV (hd l)) (fun _ => stepV) 0 (l.drop 1)).map List.flatten).more 1).on 1
def nameO (l : List UInt8) : Out (List UInt8) := if nm l = 0 then wrongO l else .ok (l.take (nm l)) (nm l)
def mustO (c : Nat) (l : List UInt8) : Out Unit := if hd l = c then .ok () 1 else wrongO l
def spO (l : List UInt8) : Out Unit := .ok () (wh l)
/-- an attribute: name, value, place -/
structure At3 where
  name : List UInt8
  value : List UInt8
  at_ : Nat
structure Mk where
  kind : Nat
  name : List UInt8
  attrs : List At3
  empty : Bool
  text : List UInt8
  at_ : Nat
def attrO (k : Nat) (l : List UInt8) : Out At3 :=
  (nameO l).seq l fun a _ l1 => (spO l1).seq l1 fun _ _ l2 => (mustO 61 l2).seq l2 fun _ _ l3 => (spO l3).seq l3 fun _ _ l4 => (valueO l4).map fun v => ⟨a, v, k⟩
def stopA (l : List UInt8) : Bool := hd (l.drop (wh l)) == 62 || hd (l.drop (wh l)) == 47
def stepA (k : Nat) (l : List UInt8) : Out At3 := if wh l = 0 then wrongO l else (attrO (k + wh l) (l.drop (wh l))).on (wh l)
def tailO (l : List UInt8) : Out Bool :=
  (spO l).seq l fun _ _ l1 => if hd l1 = 47 then (Out.ok true 1).seq l1 fun e _ l2 => (mustO 62 l2).map fun _ => e else (mustO 62 l1).map fun _ => false
def startO (f k : Nat) (l : List UInt8) : Out Mk :=
  (nameO l).seq l fun a n l1 => (loop stopA stepA (k + n) l1).seq l1 fun zs _ l2 => (tailO l2).map fun e => ⟨1, a, zs, e, [], f⟩
def endO (f : Nat) (l : List UInt8) : Out Mk :=
  (nameO l).seq l fun a _ l1 => (spO l1).seq l1 fun _ _ l2 => (mustO 62 l2).map fun _ => ⟨2, a, [], false, [], f⟩
def upO (p l : List UInt8) : Out (List UInt8) :=
  if 0 ≤ Lib.index l p then .ok (l.take (Lib.index l p).toNat) ((Lib.index l p).toNat + p.length) else .un
/-- line ends told zs one -/
def flat1 : List UInt8 → List UInt8
  | [] => []
  | 13 :: 10 :: t => 10 :: flat1 t
  | 13 :: t => 10 :: flat1 t
  | b :: t => b :: flat1 t
def cdataO (f : Nat) (l : List UInt8) : Out (Option Mk) := (upO [93, 93, 62] l).map fun t => if t = [] then none else some ⟨3, [], [], false, flat1 t, f⟩
def stepD (k : Nat) (l : List UInt8) : Out (Option Mk) :=
  if Lib.hasPrefix l [60, 33, 45, 45] = true then ((upO [45, 45, 62] (l.drop 4)).map fun _ => none).on 4
  else if Lib.hasPrefix l [60, 33, 91, 67, 68, 65, 84, 65, 91] = true then (cdataO k (l.drop 9)).on 9
  else if Lib.hasPrefix l [60, 47] = true then ((endO k (l.drop 2)).map some).on 2
  else if Lib.hasPrefix l [60] = true then ((startO k (k + 1) (l.drop 1)).map some).on 1
  else (textO l).map fun t => some ⟨3, [], [], false, t, k⟩
def docO (k : Nat) (l : List UInt8) : Out (List (Option Mk)) := loop (fun l => l.isEmpty) (fun k l => (stepD k l).fin) k l
def declB (l : List UInt8) : Bool := Lib.hasPrefix l [60, 63, 120, 109, 108] && isW (hd (l.drop 5))
def declO (l : List UInt8) : Out Unit := if declB l = true then (upO [63, 62] l).map (fun _ => ()) else .ok () 0
def marksO (l : List UInt8) : Out (List Mk) := ((declO l).fin.seq l fun _ n l1 => (docO n l1).map (List.filterMap id))

theorem wrongO_ok {α : Type} {l : List UInt8} {a : α} {n : Nat} : ¬ (wrongO l = .ok a n) := by unfold wrongO; split <;> simp
theorem refO_le {l : List UInt8} {a : List UInt8} {n : Nat} (h : refO l = .ok a n) : 1 ≤ n ∧ n ≤ l.length ∧ a ≠ [] := by
  unfold refO at h
  by_cases hc : 0 ≤ Lib.index l [59] ∧ mean (l.take (Lib.index l [59]).toNat) ≠ []
  · rw [if_pos hc] at h
    cases h
    have := Lib.index_room l [59] hc.1
    simp at this
    exact ⟨by omega, by omega, hc.2⟩
  · rw [if_neg hc] at h; cases h
theorem pieceO_le {l : List UInt8} {a : List UInt8} {n : Nat} (hl : l ≠ []) (h : pieceO l = .ok a n) : 1 ≤ n ∧ n ≤ l.length ∧ a ≠ [] := by
  have hp : 0 < l.length := List.length_pos_iff.2 hl
  unfold pieceO at h
  by_cases h1 : hd l = 38
  · rw [if_pos h1] at h; exact refO_le h
  · rw [if_neg h1] at h
    by_cases h2 : hd l = 13
    · rw [if_pos h2] at h
      by_cases h3 : hd (l.drop 1) = 10
      · rw [if_pos h3] at h
        cases h
        have := hd_ne (l := l.drop 1) (by omega)
        rw [List.length_drop] at this
        exact ⟨by omega, by omega, by simp⟩
      · rw [if_neg h3] at h; cases h; exact ⟨by omega, by omega, by simp⟩
    · rw [if_neg h2] at h; cases h; exact ⟨by omega, by omega, by simp [hl]⟩
theorem goodT : Good stopT (fun _ => pieceO) := by
  intro k l a m hs h
  have hl : l ≠ [] := by rintro rfl; exact absurd hs (by decide)
  exact ⟨(pieceO_le hl h).1, (pieceO_le hl h).2.1⟩
theorem Out.map_ok {α β : Type} {f : α → β} {o : Out α} {b : β} {n : Nat} (h : o.map f = .ok b n) : ∃ a, o = .ok a n ∧ f a = b := by
  cases o with
  | ok a m => cases h; exact ⟨a, rfl, rfl⟩
  | bad d c => cases h
  | un => cases h
theorem Out.on_ok {α : Type} {o : Out α} {b : α} {n m : Nat} (h : o.on m = .ok b n) : ∃ j, o = .ok b j ∧ n = j + m := by
  cases o with
  | ok a j => cases h; exact ⟨j, rfl, rfl⟩
  | bad d c => cases h
  | un => cases h
theorem Out.more_ok {α : Type} {o : Out α} {b : α} {n m : Nat} (h : o.more m = .ok b n) : ∃ j, o = .ok b j ∧ n = j + m := by
  cases o with
  | ok a j => cases h; exact ⟨j, rfl, rfl⟩
  | bad d c => cases h
  | un => cases h
theorem Out.fin_ok {α : Type} {o : Out α} {b : α} {n : Nat} (h : o.fin = .ok b n) : o = .ok b n := by
  cases o with
  | ok a j => cases h; rfl
  | bad d c => cases h
  | un => cases h
theorem Out.seq_ok {α β : Type} {o : Out α} {l : List UInt8} {g : α → Nat → List UInt8 → Out β} {b : β} {n : Nat} (h : o.seq l g = .ok b n) : ∃ a i j, o = .ok a i ∧ g a i (l.drop i) = .ok b j ∧ n = j + i := by
  cases o with
  | ok a i =>
    obtain ⟨j, hj, e⟩ := Out.on_ok h
    exact ⟨a, i, j, rfl, hj, e⟩
  | bad d c => cases h
  | un => cases h
theorem stepV_le {l : List UInt8} {a : List UInt8} {n : Nat} (h : stepV l = .ok a n) : 1 ≤ n ∧ n ≤ l.length := by
  unfold stepV at h
  by_cases h1 : hd l = 60 ∨ hd l = 0
  · rw [if_pos h1] at h; exact absurd h wrongO_ok
  · rw [if_neg h1] at h
    have hl : l ≠ [] := by rintro rfl; exact h1 (.inr rfl)
    by_cases h2 : isW (hd l) = true
    · rw [if_pos h2] at h
      obtain ⟨b, hb, -⟩ := Out.map_ok h
      exact ⟨(pieceO_le hl hb).1, (pieceO_le hl hb).2.1⟩
    · rw [if_neg h2] at h
      exact ⟨(pieceO_le hl h).1, (pieceO_le hl h).2.1⟩
theorem goodV (q : Nat) : Good (stopV q) (fun _ => stepV) := fun _ _ _ _ _ h => stepV_le h
theorem nameO_le {l : List UInt8} {a : List UInt8} {n : Nat} (h : nameO l = .ok a n) : 1 ≤ n ∧ n ≤ l.length ∧ a = l.take n := by
  unfold nameO at h
  by_cases h0 : nm l = 0
  · rw [if_pos h0] at h; exact absurd h wrongO_ok
  · rw [if_neg h0] at h; cases h; exact ⟨by omega, nm_le l, rfl⟩
theorem mustO_le {c : Nat} (hc : c ≠ 0) {l : List UInt8} {a : Unit} {n : Nat} (h : mustO c l = .ok a n) : n = 1 ∧ 1 ≤ l.length ∧ hd l = c := by
  unfold mustO at h
  by_cases h0 : hd l = c
  · rw [if_pos h0] at h; cases h; exact ⟨rfl, by have := hd_ne (l := l) (by omega); omega, h0⟩
  · rw [if_neg h0] at h; exact absurd h wrongO_ok
theorem spO_le {l : List UInt8} {a : Unit} {n : Nat} (h : spO l = .ok a n) : n = wh l := by cases h; rfl
theorem valueO_le {l : List UInt8} {a : List UInt8} {n : Nat} (h : valueO l = .ok a n) : 1 ≤ n ∧ n ≤ l.length := by
  unfold valueO at h
  by_cases h0 : hd l ≠ 34 ∧ hd l ≠ 39
  · rw [if_pos h0] at h; exact absurd h wrongO_ok
  · rw [if_neg h0] at h
    obtain ⟨j, h1, rfl⟩ := Out.on_ok h
    obtain ⟨i, h2, rfl⟩ := Out.more_ok h1
    obtain ⟨zs, h3, rfl⟩ := Out.map_ok h2
    have h4 := loop_le (goodV _) h3
    have hp : hd l ≠ 0 := by omega
    have := hd_ne hp
    rw [List.length_drop] at h4
    -- behind the loop the quote stands
    exact ⟨by omega, by
      have key : ∀ (m k : Nat) (l' : List UInt8) (zs : List (List UInt8)) (i : Nat), loopF (stopV (hd l)) (fun _ => stepV) m k l' = .ok zs i → l'.length < m → i < l'.length := by
        intro m
        induction m with
        | zero => intro k l' zs i _ h; omega
        | succ m ih =>
          intro k l' zs i hq hm
          simp only [loopF] at hq
          by_cases hs : stopV (hd l) l' = true
          · rw [if_pos hs] at hq
            cases hq
            have : hd l' = hd l := by simpa [stopV] using hs
            exact hd_ne (by omega)
          · rw [if_neg hs] at hq
            cases hst : stepV l' with
            | ok a j =>
              have hj := stepV_le hst
              rw [hst] at hq
              simp only at hq
              cases hr : loopF (stopV (hd l)) (fun _ => stepV) m (k + j) (l'.drop j) with
              | ok bs i' =>
                rw [hr] at hq
                cases hq
                have := ih _ _ _ _ hr (by rw [List.length_drop]; omega)
                rw [List.length_drop] at this
                omega
              | bad d c => rw [hr] at hq; cases hq
              | un => rw [hr] at hq; cases hq
            | bad d c => rw [hst] at hq; cases hq
            | un => rw [hst] at hq; cases hq
      have := key _ _ _ _ _ h3 (by omega)
      rw [List.length_drop] at this
      omega⟩
theorem attrO_le {k : Nat} {l : List UInt8} {a : At3} {n : Nat} (h : attrO k l = .ok a n) : 1 ≤ n ∧ n ≤ l.length := by
  unfold attrO at h
  obtain ⟨_, n1, j1, h1, g1, rfl⟩ := Out.seq_ok h
  obtain ⟨_, n2, j2, h2, g2, rfl⟩ := Out.seq_ok g1
  obtain ⟨_, n3, j3, h3, g3, rfl⟩ := Out.seq_ok g2
  obtain ⟨_, n4, j4, h4, g4, rfl⟩ := Out.seq_ok g3
  obtain ⟨v, h5, _⟩ := Out.map_ok g4
  have a1 := nameO_le h1
  have a5 := valueO_le h5
  simp only [List.length_drop] at a5
  omega
theorem stepA_le {k : Nat} {l : List UInt8} {a : At3} {n : Nat} (h : stepA k l = .ok a n) : 1 ≤ n ∧ n ≤ l.length := by
  unfold stepA at h
  by_cases h0 : wh l = 0
  · rw [if_pos h0] at h; exact absurd h wrongO_ok
  · rw [if_neg h0] at h
    obtain ⟨j, h1, rfl⟩ := Out.on_ok h
    have := attrO_le h1
    rw [List.length_drop] at this
    omega
theorem goodA : Good stopA stepA := fun _ _ _ _ _ h => stepA_le h
theorem tailO_le {l : List UInt8} {a : Bool} {n : Nat} (h : tailO l = .ok a n) : 1 ≤ n ∧ n ≤ l.length := by
  unfold tailO at h
  obtain ⟨_, n1, j1, h1, g1, rfl⟩ := Out.seq_ok h
  have e1 := spO_le h1
  by_cases h0 : hd (l.drop n1) = 47
  · rw [if_pos h0] at g1
    obtain ⟨_, n2, j2, h2, g2, rfl⟩ := Out.seq_ok g1
    obtain ⟨_, h3, _⟩ := Out.map_ok g2
    cases h2
    have := mustO_le (by decide) h3
    simp only [List.length_drop] at this
    omega
  · rw [if_neg h0] at g1
    obtain ⟨_, h3, _⟩ := Out.map_ok g1
    have := mustO_le (by decide) h3
    simp only [List.length_drop] at this
    omega
theorem startO_le {f k : Nat} {l : List UInt8} {a : Mk} {n : Nat} (h : startO f k l = .ok a n) : n ≤ l.length := by
  unfold startO at h
  obtain ⟨_, n1, j1, h1, g1, rfl⟩ := Out.seq_ok h
  obtain ⟨_, n2, j2, h2, g2, rfl⟩ := Out.seq_ok g1
  obtain ⟨_, h3, _⟩ := Out.map_ok g2
  have := tailO_le h3
  simp only [List.length_drop] at this
  omega
theorem endO_le {f : Nat} {l : List UInt8} {a : Mk} {n : Nat} (h : endO f l = .ok a n) : n ≤ l.length := by
  unfold endO at h
  obtain ⟨_, n1, j1, h1, g1, rfl⟩ := Out.seq_ok h
  obtain ⟨_, n2, j2, h2, g2, rfl⟩ := Out.seq_ok g1
  obtain ⟨_, h3, _⟩ := Out.map_ok g2
  have := mustO_le (by decide) h3
  simp only [List.length_drop] at this
  omega
theorem upO_le {p l : List UInt8} {a : List UInt8} {n : Nat} (h : upO p l = .ok a n) : p.length ≤ n ∧ n ≤ l.length := by
  unfold upO at h
  by_cases h0 : 0 ≤ Lib.index l p
  · rw [if_pos h0] at h
    cases h
    have := Lib.index_room l p h0
    omega
  · rw [if_neg h0] at h; cases h
theorem textO_le {l : List UInt8} {a : List UInt8} {n : Nat} (h : textO l = .ok a n) : n ≤ l.length := by
  obtain ⟨_, h1, _⟩ := Out.map_ok h
  exact loop_le goodT h1
theorem pres_ne {l : List (List UInt8)} {a : List UInt8} (h : a ≠ []) : (a :: l).flatten ≠ [] := by simp [h]
theorem textO_pos {l : List UInt8} {a : List UInt8} {n : Nat} (hs : stopT l = false) (h : textO l = .ok a n) : 1 ≤ n ∧ a ≠ [] := by
  obtain ⟨zs, h1, rfl⟩ := Out.map_ok h
  have hl : l ≠ [] := by rintro rfl; exact absurd hs (by decide)
  cases hp : pieceO l with
  | ok b m =>
    have hb := pieceO_le hl hp
    rw [loop_ok goodT (k := 0) (a := b) (m := m) hs hp] at h1
    cases hr : loop stopT (fun _ => pieceO) (0 + m) (l.drop m) with
    | ok bs i => rw [hr] at h1; cases h1; exact ⟨by omega, pres_ne hb.2.2⟩
    | bad d c => rw [hr] at h1; cases h1
    | un => rw [hr] at h1; cases h1
  | bad d c => rw [loop_bad (k := 0) (d := d) (c := c) hs hp] at h1; cases h1
  | un => rw [loop_un (k := 0) hs hp] at h1; cases h1
theorem prefix_len {l p : List UInt8} (h : Lib.hasPrefix l p = true) : p.length ≤ l.length := by
  have := List.isPrefixOf_iff_prefix.1 h
  exact this.length_le
theorem hasP_one {l : List UInt8} : Lib.hasPrefix l [60] = true ↔ hd l = 60 := by
  cases l with
  | nil => simp [Lib.hasPrefix, hd]
  | cons b t =>
    simp [Lib.hasPrefix, hd, List.isPrefixOf]
    constructor
    · intro h; rw [← h]; rfl
    · intro h; exact (UInt8.toNat_inj.1 (by rw [h]; rfl)).symm
theorem stepD_le {k : Nat} {l : List UInt8} {a : Option Mk} {n : Nat} (hl : l ≠ []) (h : stepD k l = .ok a n) : 1 ≤ n ∧ n ≤ l.length := by
  unfold stepD at h
  by_cases h1 : Lib.hasPrefix l [60, 33, 45, 45] = true
  · rw [if_pos h1] at h
    obtain ⟨j, q, rfl⟩ := Out.on_ok h
    obtain ⟨_, q1, _⟩ := Out.map_ok q
    have := upO_le q1
    have := prefix_len h1
    simp at *
    omega
  rw [if_neg h1] at h
  by_cases h2 : Lib.hasPrefix l [60, 33, 91, 67, 68, 65, 84, 65, 91] = true
  · rw [if_pos h2] at h
    obtain ⟨j, q, rfl⟩ := Out.on_ok h
    obtain ⟨_, q1, _⟩ := Out.map_ok q
    have := upO_le q1
    have := prefix_len h2
    simp at *
    omega
  rw [if_neg h2] at h
  by_cases h3 : Lib.hasPrefix l [60, 47] = true
  · rw [if_pos h3] at h
    obtain ⟨j, q, rfl⟩ := Out.on_ok h
    obtain ⟨_, q1, _⟩ := Out.map_ok q
    have := endO_le q1
    have := prefix_len h3
    simp at *
    omega
  rw [if_neg h3] at h
  by_cases h4 : Lib.hasPrefix l [60] = true
  · rw [if_pos h4] at h
    obtain ⟨j, q, rfl⟩ := Out.on_ok h
    obtain ⟨_, q1, _⟩ := Out.map_ok q
    have := startO_le q1
    have := prefix_len h4
    simp at *
    omega
  rw [if_neg h4] at h
  obtain ⟨_, h, _⟩ := Out.map_ok h
  have hs : stopT l = false := by
    rw [hasP_one] at h4
    simp [stopT, hl, h4]
  exact ⟨(textO_pos hs h).1, textO_le h⟩
theorem goodD : Good (fun l => l.isEmpty) (fun k l => (stepD k l).fin) := by
  intro k l a m hs h
  exact stepD_le (by rintro rfl; exact absurd hs (by decide)) (Out.fin_ok h)
end Go.Proofs.YtbokcihlbpeagaaGreatDoor
