/-
  DERIVED. GIVEN WITH THE SEED: THE CARDS: each row of YtbokcihlbpeagaaGreatDoorRows.lean that lists a variable, with what it lists TIED to the program's text (the seventh form; the later family's looks); each row that meets fmt, with fmt's text TOLD by the authors' own Lean function (tested against real Go, not proved from fmt's source: count such statements apart). THE CARD IS WHAT COUNTS. Prove the row's statement (the work); the ties are given (YtbokcihlbpeagaaGreatDoorTie.lean); close each card by the builder's one call (the guide's Derived/Test/ToyasCard.lean, 'card_holds'). Laid BY PROGRAM, IN A SANDBOX (cutbox-door.mjs). By AI agents, Wed Nov 11 2026. No macro, syntax, notation, axiom, sorry.
-/
import Derived.Test.YtbokcihlbpeagaaGreatDoorRows
import GoSem.ClaimSeven
namespace Go.Proofs.YtbokcihlbpeagaaGreatDoor
namespace Rows

/-- THE TIED CARD OF 'pavanelaw08.MarkupReads'. -/
def markupReadsCard : Claim7 := { stood := { row := markupReadsRow, standIns := [], harness := (true, "fe3f6f9e37e70d7cd87c81ddb23c7f32b964a0541936b8d9722c734cfcf46e51"), looks := true }, kinds := [], alts := [], laidByText := true, laidKinds := [.data, .data, .data, .data, .sentinel, .sentinel, .data, .pinned], laidTests := true, laidLooks := .later }
def MarkupReadsCardSaid : Prop := Claim7.holds Tryz.pinned (.plain (OpenSpec.ofChange markupReadsSpec)) markupReadsCard

/-- THE TIED CARD OF 'pavanelaw08.MarkupEscapes'. -/
def markupEscapesCard : Claim7 := { stood := { row := markupEscapesRow, standIns := [], harness := (true, "fe3f6f9e37e70d7cd87c81ddb23c7f32b964a0541936b8d9722c734cfcf46e51"), looks := true }, kinds := [], alts := [], laidByText := true, laidKinds := [.data, .data, .data, .data, .sentinel, .sentinel, .data, .pinned], laidTests := true, laidLooks := .later }
def MarkupEscapesCardSaid : Prop := Claim7.holds Tryz.pinned (.plain (OpenSpec.ofChange markupEscapesSpec)) markupEscapesCard

/-- THE TIED CARD OF 'pavanelaw08.MarkupRefers'. -/
def markupRefersCard : Claim7 := { stood := { row := markupRefersRow, standIns := [], harness := (true, "fe3f6f9e37e70d7cd87c81ddb23c7f32b964a0541936b8d9722c734cfcf46e51"), looks := true }, kinds := [], alts := [], laidByText := true, laidKinds := [.data, .data, .data, .data, .sentinel, .sentinel, .data, .pinned], laidTests := true, laidLooks := .later }
def MarkupRefersCardSaid : Prop := Claim7.holds Tryz.pinned (.plain (OpenSpec.ofChange markupRefersSpec)) markupRefersCard

/-- THE SECOND FORM's CARD OF 'pavanelaw08.MarkupReads'. -/
def markupReadsUptoCard : Claim7 := { stood := { row := markupReadsUptoRow, standIns := [], harness := (true, "fe3f6f9e37e70d7cd87c81ddb23c7f32b964a0541936b8d9722c734cfcf46e51"), looks := true }, kinds := [], alts := [], laidByText := true, laidKinds := [.data, .data, .data, .data, .sentinel, .sentinel, .data, .pinned], laidTests := true, laidLooks := .later }
def MarkupReadsUptoCardSaid : Prop := Claim7.holds Tryz.pinned (.plain (OpenSpec.upto markupReadsSpec)) markupReadsUptoCard

/-- THE SECOND FORM's CARD OF 'pavanelaw08.MarkupEscapes'. -/
def markupEscapesUptoCard : Claim7 := { stood := { row := markupEscapesUptoRow, standIns := [], harness := (true, "fe3f6f9e37e70d7cd87c81ddb23c7f32b964a0541936b8d9722c734cfcf46e51"), looks := true }, kinds := [], alts := [], laidByText := true, laidKinds := [.data, .data, .data, .data, .sentinel, .sentinel, .data, .pinned], laidTests := true, laidLooks := .later }
def MarkupEscapesUptoCardSaid : Prop := Claim7.holds Tryz.pinned (.plain (OpenSpec.upto markupEscapesSpec)) markupEscapesUptoCard

/-- THE SECOND FORM's CARD OF 'pavanelaw08.MarkupRefers'. -/
def markupRefersUptoCard : Claim7 := { stood := { row := markupRefersUptoRow, standIns := [], harness := (true, "fe3f6f9e37e70d7cd87c81ddb23c7f32b964a0541936b8d9722c734cfcf46e51"), looks := true }, kinds := [], alts := [], laidByText := true, laidKinds := [.data, .data, .data, .data, .sentinel, .sentinel, .data, .pinned], laidTests := true, laidLooks := .later }
def MarkupRefersUptoCardSaid : Prop := Claim7.holds Tryz.pinned (.plain (OpenSpec.upto markupRefersSpec)) markupRefersUptoCard
end Rows
end Go.Proofs.YtbokcihlbpeagaaGreatDoor
