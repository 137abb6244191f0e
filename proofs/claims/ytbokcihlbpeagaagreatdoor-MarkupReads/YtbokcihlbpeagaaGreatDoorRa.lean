/-
  What is proved: contracts of markup's reader: here, white, unended, wrong, must. Conditions: those in each statement.
-/
import Derived.Test.YtbokcihlbpeagaaGreatDoorUg
import Derived.Test.YtbokcihlbpeagaaGreatDoorBlk
import Derived.Recover
import Derived.WalkLawsBesides
namespace Go.Proofs.YtbokcihlbpeagaaGreatDoor
open Go.RowKit

/-- a reader in memory: its block p, the text s, the place k, the beginning f, its marks m -/
def Rd (w : World) (p : Nat) (s : ByteArray) (k f : Nat) (m : Value) : Prop :=
  w.heap[p]? = some (.cells #[.string s, .int .i64 (k : Int), .int .i64 (f : Int), m] 49 (0, 0))
theorem Rd.c0 {w : World} {p : Nat} {s : ByteArray} {k f : Nat} {m : Value} (h : Rd w p s k f m) : w.cell? ⟨p, 0, none⟩ = some (.string s) := by
  unfold Rd at h; simp [World.cell?, h]
theorem Rd.c1 {w : World} {p : Nat} {s : ByteArray} {k f : Nat} {m : Value} (h : Rd w p s k f m) : w.cell? ⟨p, 1, none⟩ = some (.int .i64 (k : Int)) := by
  unfold Rd at h; simp [World.cell?, h]
theorem Rd.c2 {w : World} {p : Nat} {s : ByteArray} {k f : Nat} {m : Value} (h : Rd w p s k f m) : w.cell? ⟨p, 2, none⟩ = some (.int .i64 (f : Int)) := by
  unfold Rd at h; simp [World.cell?, h]
theorem Rd.c3 {w : World} {p : Nat} {s : ByteArray} {k f : Nat} {m : Value} (h : Rd w p s k f m) : w.cell? ⟨p, 3, none⟩ = some m := by
  unfold Rd at h; simp [World.cell?, h]
theorem Rd.z {w : World} {p : Nat} {s : ByteArray} {k f : Nat} {m : Value} (h : Rd w p s k f m) (j : Nat) : w.frozen? ⟨p, j, none⟩ = false := by
  unfold Rd at h; simp [World.frozen?, h]
/-- only the block p may have changed, of what was there -/
def Mv (p : Nat) (w w' : World) : Prop := Chg (fun b => b = p) w w'
theorem Mv.refl (p : Nat) (w : World) : Mv p w w := Chg.refl _ w
theorem Mv.trans {p : Nat} {a b c : World} (h : Mv p a b) (k : Mv p b c) : Mv p a c := Chg.trans h k (fun _ _ e => e)
theorem Mv.drew {p : Nat} {a b : World} (h : Mv p a b) : Mv p a b.drew := Chg.drew h
theorem Mv.set {p : Nat} {a b : World} (h : Mv p a b) (j : Nat) (v : Value) : Mv p a (b.setCell ⟨p, j, none⟩ v) := Chg.setCell h (.inl rfl) v
theorem Rd.drew {w : World} {p : Nat} {s : ByteArray} {k f : Nat} {m : Value} (h : Rd w p s k f m) : Rd w.drew p s k f m := h
theorem Rd.at1 {w : World} {p : Nat} {s : ByteArray} {k f : Nat} {m : Value} (h : Rd w p s k f m) {x : Int} {j : Nat} (hx : x = (j : Int)) : Rd (w.setCell ⟨p, 1, none⟩ (.int .i64 x)) p s j f m := by
  have := heap_setCell_at h 1 (.int .i64 x)
  subst hx
  exact this
theorem Rd.at2 {w : World} {p : Nat} {s : ByteArray} {k f : Nat} {m : Value} (h : Rd w p s k f m) {x : Int} {j : Nat} (hx : x = (j : Int)) : Rd (w.setCell ⟨p, 2, none⟩ (.int .i64 x)) p s k j m := by
  have := heap_setCell_at h 2 (.int .i64 x)
  subst hx
  exact this
/-- what a call answers that gives up at a place -/
abbrev flt (x : Nat) (c : Int) : Ending := .panicked [{ v := .iface 46 (.agg #[.int .i64 (x : Int), .int .i64 c]), recovered := false }]
/-- the byte that is next, 0 at the end -/
def hereB (s : ByteArray) (k : Nat) : Nat := if h : k < s.size then s[k].toNat else 0

theorem hereB_lt (s : ByteArray) (k : Nat) : hereB s k < 256 := by
  unfold hereB
  split
  · exact UInt8.toNat_lt _
  · omega
theorem hereB_at {s : ByteArray} {k : Nat} (h : k < s.size) : hereB s k = s[k].toNat := by unfold hereB; rw [dif_pos h]
theorem hereB_end {s : ByteArray} {k : Nat} (h : s.size ≤ k) : hereB s k = 0 := by unfold hereB; rw [dif_neg (by omega)]

set_option maxRecDepth 100000 in
theorem unended_any (w : World) (p : Nat) (s : ByteArray) (k f : Nat) (m : Value) (h : Rd w p s k f m) :
    Calls Tryz.prog 81 #[.pointer (some ⟨p, 0, none⟩)] w fun e w' => e = flt f 84 ∧ w = w' := by
  have c2 := h.c2
  have H := Lib.hid h
  clear h
  go_enter Tryz.func81, Tryz.ntmps81
  go_wp2
  exact ⟨rfl, rfl, rfl⟩

set_option maxRecDepth 100000 in
theorem here_any (w : World) (p : Nat) (s : ByteArray) (k f : Nat) (m : Value) (h : Rd w p s k f m) (hk : k ≤ s.size) (_hs : s.size ≤ 65536) :
    Calls Tryz.prog 75 #[.pointer (some ⟨p, 0, none⟩)] w fun e w' => e = .returned (.int .u8 (hereB s k : Int)) ∧ Rd w' p s k f m ∧ Mv p w w' := by
  have c0 := h.c0
  have c1 := h.c1
  have H := Lib.hid h
  clear h
  by_cases hk2 : k < s.size
  · have HB := Lib.hid (hereB_at hk2)
    have hne : ¬ (k : Int) = (s.size : Int) := by omega
    go_enter Tryz.func75, Tryz.ntmps75
    go_wp2
    go_region
    go_wp2
    go_region
    go_wp2
    go_ret
    exact ⟨by rw [HB.out]; rfl, H.out, (Mv.refl _ _).drew.drew⟩
  · have HB := Lib.hid (hereB_end (Nat.le_of_not_lt hk2))
    have hne : (k : Int) = (s.size : Int) := by omega
    obtain rfl : k = s.size := by omega
    go_enter Tryz.func75, Tryz.ntmps75
    go_wp2
    go_region
    go_wp2
    go_ret
    exact ⟨by rw [HB.out]; rfl, H.out, (Mv.refl _ _).drew⟩

set_option maxRecDepth 100000 in
theorem wrong_any (w : World) (p : Nat) (s : ByteArray) (k f : Nat) (m : Value) (h : Rd w p s k f m) (hk : k ≤ s.size) (_hs : s.size ≤ 65536) :
    Calls Tryz.prog 76 #[.pointer (some ⟨p, 0, none⟩)] w fun e w' => e = (if k = s.size then flt f 84 else flt k 82) ∧ Mv p w w' := by
  have c0 := h.c0
  have c1 := h.c1
  have H := Lib.hid h
  clear h
  by_cases hk2 : k = s.size
  · rw [if_pos hk2]
    subst hk2
    go_enter Tryz.func76, Tryz.ntmps76
    go_wp2
    go_region
    go_wp2_with (go_at_call 81; refine (unended_any _ _ _ _ _ _ (Rd.drew H.out)).mono ?_; rintro e w' ⟨rfl, rfl⟩)
    exact ⟨rfl, rfl, (Mv.refl _ _).drew⟩
  · rw [if_neg hk2]
    have hne : ¬ (k : Int) = (s.size : Int) := by omega
    go_enter Tryz.func76, Tryz.ntmps76
    go_wp2
    go_region
    go_wp2
    exact ⟨rfl, rfl, (Mv.refl _ _).drew⟩
end Go.Proofs.YtbokcihlbpeagaaGreatDoor
