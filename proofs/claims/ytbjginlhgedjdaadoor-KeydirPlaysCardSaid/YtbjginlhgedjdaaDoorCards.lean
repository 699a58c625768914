/-
  DERIVED. GIVEN WITH THE SEED: THE CARDS: each row of YtbjginlhgedjdaaDoorRows.lean that lists a variable, with what it lists TIED to the program's text (the seventh form; the later family's looks); each row that meets fmt, with fmt's text TOLD by the authors' own Lean function (tested against real Go, not proved from fmt's source: count such statements apart). THE CARD IS WHAT COUNTS. Prove the row's statement (the work); the ties are given (YtbjginlhgedjdaaDoorTie.lean); close each card by the builder's one call (the guide's Derived/Test/ToyasCard.lean, 'card_holds'). Laid BY PROGRAM, IN A SANDBOX (cutbox-door.mjs). By AI agents, Wed Nov 11 2026. No macro, syntax, notation, axiom, sorry.
-/
import Derived.Test.YtbjginlhgedjdaaDoorRows
import GoSem.ClaimSeven
namespace Go.Proofs.YtbjginlhgedjdaaDoor
namespace Rows

/-- THE TIED CARD OF 'thwartlaw10.KeydirPlays'. -/
def keydirPlaysCard : Claim7 := { stood := { row := keydirPlaysRow, standIns := [], harness := (true, "04de909fa182fc017cbb4713f36fd38ec04abda64ba1646d9881bf0524453c44"), looks := false }, kinds := [], alts := [], laidByText := true, laidKinds := [.data], laidTests := true, laidLooks := .later }
def KeydirPlaysCardSaid : Prop := Claim7.holds Tryd.pinned (.plain (OpenSpec.ofChange keydirPlaysSpec)) keydirPlaysCard

/-- THE TIED CARD OF 'thwartlaw10.KeydirMap'. -/
def keydirMapCard : Claim7 := { stood := { row := keydirMapRow, standIns := [], harness := (true, "04de909fa182fc017cbb4713f36fd38ec04abda64ba1646d9881bf0524453c44"), looks := false }, kinds := [], alts := [], laidByText := true, laidKinds := [.data], laidTests := true, laidLooks := .later }
def KeydirMapCardSaid : Prop := Claim7.holds Tryd.pinned (.plain (OpenSpec.ofChange keydirMapSpec)) keydirMapCard

/-- THE TIED CARD OF 'thwartlaw10.KeydirHomes'. -/
def keydirHomesCard : Claim7 := { stood := { row := keydirHomesRow, standIns := [], harness := (true, "04de909fa182fc017cbb4713f36fd38ec04abda64ba1646d9881bf0524453c44"), looks := false }, kinds := [], alts := [], laidByText := true, laidKinds := [.data], laidTests := true, laidLooks := .later }
def KeydirHomesCardSaid : Prop := Claim7.holds Tryd.pinned (.plain (OpenSpec.ofChange keydirHomesSpec)) keydirHomesCard

/-- THE SECOND FORM's CARD OF 'thwartlaw10.KeydirPlays'. -/
def keydirPlaysUptoCard : Claim7 := { stood := { row := keydirPlaysUptoRow, standIns := [], harness := (true, "04de909fa182fc017cbb4713f36fd38ec04abda64ba1646d9881bf0524453c44"), looks := false }, kinds := [], alts := [], laidByText := true, laidKinds := [.data], laidTests := true, laidLooks := .later }
def KeydirPlaysUptoCardSaid : Prop := Claim7.holds Tryd.pinned (.plain (OpenSpec.upto keydirPlaysSpec)) keydirPlaysUptoCard

/-- THE SECOND FORM's CARD OF 'thwartlaw10.KeydirMap'. -/
def keydirMapUptoCard : Claim7 := { stood := { row := keydirMapUptoRow, standIns := [], harness := (true, "04de909fa182fc017cbb4713f36fd38ec04abda64ba1646d9881bf0524453c44"), looks := false }, kinds := [], alts := [], laidByText := true, laidKinds := [.data], laidTests := true, laidLooks := .later }
def KeydirMapUptoCardSaid : Prop := Claim7.holds Tryd.pinned (.plain (OpenSpec.upto keydirMapSpec)) keydirMapUptoCard

/-- THE SECOND FORM's CARD OF 'thwartlaw10.KeydirHomes'. -/
def keydirHomesUptoCard : Claim7 := { stood := { row := keydirHomesUptoRow, standIns := [], harness := (true, "04de909fa182fc017cbb4713f36fd38ec04abda64ba1646d9881bf0524453c44"), looks := false }, kinds := [], alts := [], laidByText := true, laidKinds := [.data], laidTests := true, laidLooks := .later }
def KeydirHomesUptoCardSaid : Prop := Claim7.holds Tryd.pinned (.plain (OpenSpec.upto keydirHomesSpec)) keydirHomesUptoCard
end Rows
end Go.Proofs.YtbjginlhgedjdaaDoor
