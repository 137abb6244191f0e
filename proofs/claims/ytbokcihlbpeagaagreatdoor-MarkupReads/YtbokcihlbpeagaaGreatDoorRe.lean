/-
  What is proved: contracts of strconv.ParseUint (bases 10 and 16, 32 bits, texts of at most eight bytes) and of markup's numbered. Conditions: those in each statement.
-/
import Derived.Test.YtbokcihlbpeagaaGreatDoorRc
namespace Go.Proofs.YtbokcihlbpeagaaGreatDoor
open Go.RowKit

/-- the five references by a name, as the program's table lays them -/
def entCells : Array Value := #[.string ⟨#[38, 108, 116]⟩, .string ⟨#[60]⟩, .string ⟨#[38, 103, 116]⟩, .string ⟨#[62]⟩, .string ⟨#[38, 97, 109, 112]⟩, .string ⟨#[38]⟩,
  .string ⟨#[38, 97, 112, 111, 115]⟩, .string ⟨#[39]⟩, .string ⟨#[38, 113, 117, 111, 116]⟩, .string ⟨#[34]⟩]
/-- what the package-level variables hold -/
structure Glob (w : World) : Prop where
  ent : ∀ j v, entCells[j]? = some v → w.cell? ⟨0, j, none⟩ = some v
  mx : ∃ m, w.cell? ⟨1, 0, none⟩ = some (.int .i64 m)
  es : ∃ ev, w.cell? ⟨7, 0, none⟩ = some ev ∧ (ev = .nilIface ∨ ∃ te pe, ev = .iface te pe)
  size : 9 ≤ w.heap.size
theorem cell_same {w w' : World} {b : Nat} (h : w'.heap[b]? = w.heap[b]?) (j : Nat) : w'.cell? ⟨b, j, none⟩ = w.cell? ⟨b, j, none⟩ := by simp [World.cell?, h]
theorem Glob.keep {w w' : World} (h : Glob w) (hs : w.heap.size ≤ w'.heap.size) (hb : ∀ b, b < 9 → w'.heap[b]? = w.heap[b]?) : Glob w' := by
  refine ⟨fun j v hv => ?_, ?_, ?_, Nat.le_trans h.size hs⟩
  · rw [cell_same (hb _ (by decide)) j]; exact h.ent j v hv
  · obtain ⟨m, hm⟩ := h.mx; exact ⟨m, by rw [cell_same (hb _ (by decide)) 0]; exact hm⟩
  · obtain ⟨m, hm, hx⟩ := h.es; exact ⟨m, by rw [cell_same (hb _ (by decide)) 0]; exact hm, hx⟩
theorem Glob.mv {w w' : World} {p : Nat} (h : Glob w) (hm : Mv p w w') (hp : 9 ≤ p) : Glob w' :=
  h.keep hm.size (fun b hb => hm.block b (by have := h.size; omega) (by omega))
theorem Glob.below {w w' : World} {B : Nat} (h : Glob w) (hm : Below B w w') (hp : 9 ≤ B) : Glob w' :=
  h.keep hm.size (fun b hb => hm.block b (by omega))
theorem Glob.drew {w : World} (h : Glob w) : Glob w.drew := h.keep (Nat.le_refl _) (fun _ _ => rfl)
theorem Glob.drewN {w : World} (h : Glob w) (n : Nat) : Glob (w.drewN n) := h.keep (Nat.le_refl _) (fun _ _ => rfl)

set_option maxRecDepth 100000 in
theorem inner0 (t : ByteArray) (B : Int) (h0 : t.size = 0) (w : World) :
    Calls Tryz.prog 123 #[.string t, .int .i64 B, .int .i64 32] w fun e w' => e = .returned (inV none) ∧ w = w' := by
  have hemp : t.toList.isEmpty = true := by
    rw [← decide_eq_emptyBytes]
    exact decide_eq_true (by obtain ⟨⟨l⟩⟩ := t; have : l = [] := List.length_eq_zero_iff.1 h0; subst this; rfl)
  clear h0
  go_enter Tryz.func123, Tryz.ntmps123
  go_wp2
  go_ret2
  exact ⟨rfl, rfl⟩
/-- the number of a text of at most eight bytes -/
def numV (B : Nat) (l : List UInt8) : Option Nat := if l = [] then none else numA B 0 l
def PuPost (w : World) (o : Option Nat) (e : Ending) (w' : World) : Prop := Below w.heap.size w w' ∧ match o with
  | some n => e = .returned (.tuple #[.int .u64 (n : Int), .nilIface])
  | none => ∃ N, e = .returned (.tuple #[.int .u64 0, .iface 146 (.pointer (some ⟨N, 0, none⟩))])
theorem inner_any (t : ByteArray) (B : Nat) (hB : B = 10 ∨ B = 16) (h8 : t.size ≤ 8) (w : World) :
    Calls Tryz.prog 123 #[.string t, .int .i64 (B : Int), .int .i64 32] w fun e w' => e = .returned (inV (numV B t.data.toList)) ∧ Below w.heap.size w w' := by
  by_cases h0 : t.size = 0
  · refine (inner0 t B h0 w).mono ?_
    rintro e w' ⟨rfl, rfl⟩
    have : t.data.toList = [] := List.length_eq_zero_iff.1 (by rw [size_toList]; exact h0)
    exact ⟨by unfold numV; rw [if_pos this], Below.refl _ _⟩
  · have hn : t.data.toList ≠ [] := fun h => h0 (by rw [← size_toList, h]; rfl)
    have hV : numV B t.data.toList = numA B 0 t.data.toList := by unfold numV; rw [if_neg hn]
    rw [hV]
    rcases hB with rfl | rfl
    · refine (inner10 t h0 h8 w).mono ?_
      rintro e w' ⟨rfl, rfl⟩
      exact ⟨rfl, Lib.bytesWorld_below w 5 t⟩
    · refine (inner16 t h0 h8 w).mono ?_
      rintro e w' ⟨rfl, rfl⟩
      exact ⟨rfl, Lib.bytesWorld_below w 5 t⟩
set_option maxRecDepth 100000 in
theorem parse_any (t : ByteArray) (B : Nat) (hB : B = 10 ∨ B = 16) (h8 : t.size ≤ 8) (w : World) (hG : Glob w) :
    Calls Tryz.prog 118 #[.string t, .int .i64 (B : Int), .int .i64 32] w (PuPost w (numV B t.data.toList)) := by
  have HI := Lib.hid (inner_any t B hB h8 w)
  have HG := Lib.hid hG
  have H8 := Lib.hid h8
  clear hG hB h8
  cases hV : numV B t.data.toList with
  | some n =>
    rw [hV] at HI
    clear hV HG
    go_enter Tryz.func118, Tryz.ntmps118
    go_wp2_with (go_at_call 123; refine HI.out.mono ?_; rintro e w1 ⟨rfl, hb⟩; have HBl := Lib.hid hb; clear hb; simp only [inV])
    go_ret2
    exact ⟨HBl.out, rfl⟩
  | none =>
    rw [hV] at HI
    clear hV
    go_enter Tryz.func118, Tryz.ntmps118
    go_wp2_with (first
      | (go_at_call 123; refine HI.out.mono ?_; rintro e w1 ⟨rfl, hb⟩; have HBl := Lib.hid hb; clear hb; simp only [inV])
      | (go_at_call 124; obtain ⟨ev, he, hev⟩ := (HG.out.below HBl.out HG.out.size).es; refine (Tryz.strconv_toError_syntax _ _ _ _ ev _ (by have := H8.out; omega) he hev).mono ?_; rintro e w2 ⟨N, rfl, -, -, hb⟩; have HB2 := Lib.hid hb; clear hb))
    go_ret2
    exact ⟨HBl.out.trans (HB2.out.mono HBl.out.size), N, rfl⟩
end Go.Proofs.YtbokcihlbpeagaaGreatDoor
