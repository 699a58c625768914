/-
  DERIVED. GIVEN WITH THE SEED: THE CARDS: each row of YtkdidinekoaobaaGreatDoorRows.lean that lists a variable, with what it lists TIED to the program's text (the seventh form; the later family's looks); each row that meets fmt, with fmt's text TOLD by the authors' own Lean function (tested against real Go, not proved from fmt's source: count such statements apart). THE CARD IS WHAT COUNTS. Prove the row's statement (the work); the ties are given (YtkdidinekoaobaaGreatDoorTie.lean); close each card by the builder's one call (the guide's Derived/Test/ToyasCard.lean, 'card_holds'). Laid BY PROGRAM, IN A SANDBOX (cutbox-door.mjs). By AI agents, Wed Nov 11 2026. No macro, syntax, notation, axiom, sorry.
-/
import Derived.Test.YtkdidinekoaobaaGreatDoorRows
import GoSem.ClaimSeven
namespace Go.Proofs.YtkdidinekoaobaaGreatDoor
namespace Rows

/-- THE TIED CARD OF 'thwartlaw13.PublishPlays'. -/
def publishPlaysCard : Claim7 := { stood := { row := publishPlaysRow, standIns := [], harness := (true, "25b4423299c37aca9938d3462516e4b43afb49b50d00fcee904a6d2646f876d3"), looks := true }, kinds := [], alts := [], laidByText := true, laidKinds := [.data, .data, .data, .sentinel, .sentinel], laidTests := true, laidLooks := .later }
def PublishPlaysCardSaid : Prop := Claim7.holds Tryz.pinned (.plain (OpenSpec.ofChange publishPlaysSpec)) publishPlaysCard

/-- THE TIED CARD OF 'thwartlaw13.PublishWaste'. -/
def publishWasteCard : Claim7 := { stood := { row := publishWasteRow, standIns := [], harness := (true, "25b4423299c37aca9938d3462516e4b43afb49b50d00fcee904a6d2646f876d3"), looks := true }, kinds := [], alts := [], laidByText := true, laidKinds := [.data, .data, .data, .sentinel, .sentinel], laidTests := true, laidLooks := .later }
def PublishWasteCardSaid : Prop := Claim7.holds Tryz.pinned (.plain (OpenSpec.ofChange publishWasteSpec)) publishWasteCard

/-- THE TIED CARD OF 'thwartlaw13.PublishOnce'. -/
def publishOnceCard : Claim7 := { stood := { row := publishOnceRow, standIns := [], harness := (true, "25b4423299c37aca9938d3462516e4b43afb49b50d00fcee904a6d2646f876d3"), looks := true }, kinds := [], alts := [], laidByText := true, laidKinds := [.data, .data, .data, .sentinel, .sentinel], laidTests := true, laidLooks := .later }
def PublishOnceCardSaid : Prop := Claim7.holds Tryz.pinned (.plain (OpenSpec.ofChange publishOnceSpec)) publishOnceCard

/-- THE TIED CARD OF 'thwartlaw13.PublishBack'. -/
def publishBackCard : Claim7 := { stood := { row := publishBackRow, standIns := [], harness := (true, "25b4423299c37aca9938d3462516e4b43afb49b50d00fcee904a6d2646f876d3"), looks := true }, kinds := [], alts := [], laidByText := true, laidKinds := [.data, .data, .data, .sentinel, .sentinel], laidTests := true, laidLooks := .later }
def PublishBackCardSaid : Prop := Claim7.holds Tryz.pinned (.plain (OpenSpec.ofChange publishBackSpec)) publishBackCard

/-- THE SECOND FORM's CARD OF 'thwartlaw13.PublishPlays'. -/
def publishPlaysUptoCard : Claim7 := { stood := { row := publishPlaysUptoRow, standIns := [], harness := (true, "25b4423299c37aca9938d3462516e4b43afb49b50d00fcee904a6d2646f876d3"), looks := true }, kinds := [], alts := [], laidByText := true, laidKinds := [.data, .data, .data, .sentinel, .sentinel], laidTests := true, laidLooks := .later }
def PublishPlaysUptoCardSaid : Prop := Claim7.holds Tryz.pinned (.plain (OpenSpec.upto publishPlaysSpec)) publishPlaysUptoCard

/-- THE SECOND FORM's CARD OF 'thwartlaw13.PublishWaste'. -/
def publishWasteUptoCard : Claim7 := { stood := { row := publishWasteUptoRow, standIns := [], harness := (true, "25b4423299c37aca9938d3462516e4b43afb49b50d00fcee904a6d2646f876d3"), looks := true }, kinds := [], alts := [], laidByText := true, laidKinds := [.data, .data, .data, .sentinel, .sentinel], laidTests := true, laidLooks := .later }
def PublishWasteUptoCardSaid : Prop := Claim7.holds Tryz.pinned (.plain (OpenSpec.upto publishWasteSpec)) publishWasteUptoCard

/-- THE SECOND FORM's CARD OF 'thwartlaw13.PublishOnce'. -/
def publishOnceUptoCard : Claim7 := { stood := { row := publishOnceUptoRow, standIns := [], harness := (true, "25b4423299c37aca9938d3462516e4b43afb49b50d00fcee904a6d2646f876d3"), looks := true }, kinds := [], alts := [], laidByText := true, laidKinds := [.data, .data, .data, .sentinel, .sentinel], laidTests := true, laidLooks := .later }
def PublishOnceUptoCardSaid : Prop := Claim7.holds Tryz.pinned (.plain (OpenSpec.upto publishOnceSpec)) publishOnceUptoCard

/-- THE SECOND FORM's CARD OF 'thwartlaw13.PublishBack'. -/
def publishBackUptoCard : Claim7 := { stood := { row := publishBackUptoRow, standIns := [], harness := (true, "25b4423299c37aca9938d3462516e4b43afb49b50d00fcee904a6d2646f876d3"), looks := true }, kinds := [], alts := [], laidByText := true, laidKinds := [.data, .data, .data, .sentinel, .sentinel], laidTests := true, laidLooks := .later }
def PublishBackUptoCardSaid : Prop := Claim7.holds Tryz.pinned (.plain (OpenSpec.upto publishBackSpec)) publishBackUptoCard
end Rows
end Go.Proofs.YtkdidinekoaobaaGreatDoor
