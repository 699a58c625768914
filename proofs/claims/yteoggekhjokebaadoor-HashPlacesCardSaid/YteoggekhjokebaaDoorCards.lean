/-
  DERIVED. GIVEN WITH THE SEED: THE CARDS: each row of YteoggekhjokebaaDoorRows.lean that lists a variable, with what it lists TIED to the program's text (the seventh form; the later family's looks); each row that meets fmt, with fmt's text TOLD by the authors' own Lean function (tested against real Go, not proved from fmt's source: count such statements apart). THE CARD IS WHAT COUNTS. Prove the row's statement (the work); the ties are given (YteoggekhjokebaaDoorTie.lean); close each card by the builder's one call (the guide's Derived/Test/ToyasCard.lean, 'card_holds'). Laid BY PROGRAM, IN A SANDBOX (cutbox-door.mjs). By AI agents, Wed Nov 11 2026. No macro, syntax, notation, axiom, sorry.
-/
import Derived.Test.YteoggekhjokebaaDoorRows
import GoSem.ClaimSeven
namespace Go.Proofs.YteoggekhjokebaaDoor
namespace Rows

/-- THE TIED CARD OF 'thwartlaw09.HashSums'. -/
def hashSumsCard : Claim7 := { stood := { row := hashSumsRow, standIns := [], harness := (true, "6d3c0c0264c08eeb5426a2045bf92b0c4f64391ee621f7cb83996d2f7362677c"), looks := false }, kinds := [], alts := [], laidByText := true, laidKinds := [.data], laidTests := true, laidLooks := .later }
def HashSumsCardSaid : Prop := Claim7.holds Tryd.pinned (.plain (OpenSpec.ofChange hashSumsSpec)) hashSumsCard

/-- THE TIED CARD OF 'thwartlaw09.HashMixes'. -/
def hashMixesCard : Claim7 := { stood := { row := hashMixesRow, standIns := [], harness := (true, "6d3c0c0264c08eeb5426a2045bf92b0c4f64391ee621f7cb83996d2f7362677c"), looks := false }, kinds := [], alts := [], laidByText := true, laidKinds := [.data], laidTests := true, laidLooks := .later }
def HashMixesCardSaid : Prop := Claim7.holds Tryd.pinned (.plain (OpenSpec.ofChange hashMixesSpec)) hashMixesCard

/-- THE TIED CARD OF 'thwartlaw09.HashPlaces'. -/
def hashPlacesCard : Claim7 := { stood := { row := hashPlacesRow, standIns := [], harness := (true, "6d3c0c0264c08eeb5426a2045bf92b0c4f64391ee621f7cb83996d2f7362677c"), looks := false }, kinds := [], alts := [], laidByText := true, laidKinds := [.data], laidTests := true, laidLooks := .later }
def HashPlacesCardSaid : Prop := Claim7.holds Tryd.pinned (.plain (OpenSpec.ofChange hashPlacesSpec)) hashPlacesCard

/-- THE SECOND FORM's CARD OF 'thwartlaw09.HashSums'. -/
def hashSumsUptoCard : Claim7 := { stood := { row := hashSumsUptoRow, standIns := [], harness := (true, "6d3c0c0264c08eeb5426a2045bf92b0c4f64391ee621f7cb83996d2f7362677c"), looks := false }, kinds := [], alts := [], laidByText := true, laidKinds := [.data], laidTests := true, laidLooks := .later }
def HashSumsUptoCardSaid : Prop := Claim7.holds Tryd.pinned (.plain (OpenSpec.upto hashSumsSpec)) hashSumsUptoCard

/-- THE SECOND FORM's CARD OF 'thwartlaw09.HashMixes'. -/
def hashMixesUptoCard : Claim7 := { stood := { row := hashMixesUptoRow, standIns := [], harness := (true, "6d3c0c0264c08eeb5426a2045bf92b0c4f64391ee621f7cb83996d2f7362677c"), looks := false }, kinds := [], alts := [], laidByText := true, laidKinds := [.data], laidTests := true, laidLooks := .later }
def HashMixesUptoCardSaid : Prop := Claim7.holds Tryd.pinned (.plain (OpenSpec.upto hashMixesSpec)) hashMixesUptoCard

/-- THE SECOND FORM's CARD OF 'thwartlaw09.HashPlaces'. -/
def hashPlacesUptoCard : Claim7 := { stood := { row := hashPlacesUptoRow, standIns := [], harness := (true, "6d3c0c0264c08eeb5426a2045bf92b0c4f64391ee621f7cb83996d2f7362677c"), looks := false }, kinds := [], alts := [], laidByText := true, laidKinds := [.data], laidTests := true, laidLooks := .later }
def HashPlacesUptoCardSaid : Prop := Claim7.holds Tryd.pinned (.plain (OpenSpec.upto hashPlacesSpec)) hashPlacesUptoCard
end Rows
end Go.Proofs.YteoggekhjokebaaDoor
