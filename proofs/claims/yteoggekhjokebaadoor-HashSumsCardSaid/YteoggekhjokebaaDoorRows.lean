/-
  NARROWER THAN 'FOR EVERY INPUT', by the rows' own cells (each row's printed sentence says how): HashSums: laid · HashMixes: laid · HashPlaces: laid.
  DERIVED. THE GIVEN ROWS OF THIS SEAT. 3 by the template 'for every input the law returns true; each argument reads behind the call as it read before'; 0 by the template 'total and deterministic' (their statements: YteoggekhjokebaaDoorTotals.lean).
  GIVEN WITH THE SEED: the statements are not yours to turn. If you find one false, say at which input.
  Laid BY PROGRAM, IN A SANDBOX (cutbox-rows.mjs): the forced cells as the released guide's own fill.sh prints them over the translation ac23d02db731fa44… (all of the seat's roots in one cut). By AI agents, Wed Nov 11 2026. No macro, syntax, notation, axiom, sorry.
-/
import Derived.Test.YteoggekhjokebaaDoorChecked
import GoSem.Claim
import GoSem.ClaimJoined
import GoSem.ClaimMapViews
import Derived.JoinedTies
import Derived.KernelRfl
namespace Go.Proofs.YteoggekhjokebaaDoor
/- THE CELL 'sum', in the pinned program and in every row, IS THE sha256 OF THE DUMP (.gsa) THAT YteoggekhjokebaaDoorProg.lean LOADS. Nothing in Lean hashes anything: it is a label: what it is worth is what the hold of that sum in a sandbox is worth. -/
noncomputable def Tryd.pinned : Pinned := { name := "yteoggekhjokebaadoor", sum := "ac23d02db731fa44d1be078fca1187e8c3850a48802623cf5a5ce03287f46050", checked := Tryd.checked }
namespace Rows
def none {H : Type} : Left H := { results := [], args := [] }

/- WHAT THE LISTED PACKAGE-LEVEL VARIABLES READ AS WHEN THE CALL BEGINS. Each datum BY PROGRAM (the guide's laid-datum.mjs) off the statement by which the dump's own 'gosem.cut.vars' lays the variable. In a bare row this is a premise. The card (YteoggekhjokebaaDoorCards.lean) ties it to the program's text. -/
def laid_thwart_hash_multipliers {H : Type} : DataW H := .agg [.lit (.int .u64 18397679294719823053), .lit (.int .u64 14181476777654086739)]

/-- 'thwartlaw09.HashSums': WHATEVER THE INPUT: true; the input reads as it did. -/
def hashSumsSpec : ChangeSpec := { name := "hashSums", fn := fun _ => fun
  | [d1, d2, d3] => { results := [.lit (.bool true)], args := [d1, d2, d3] }
  | _ => none }
def hashSumsRow : OpenClaim := { program := "yteoggekhjokebaadoor", sum := "ac23d02db731fa44d1be078fca1187e8c3850a48802623cf5a5ce03287f46050", func := "thwart/thwartlaw09.HashSums", spec := "hashSums", named := ["thwart/hash.multipliers"], apart := false, laid := [("thwart/hash.multipliers", laid_thwart_hash_multipliers)] }
def HashSumsSaid : Prop := hashSumsRow.holds Tryd.pinned (OpenSpec.ofChange hashSumsSpec)

/-- ITS FALSE NEIGHBOUR: 'it returns false'. Refute it at one input. -/
def hashSumsWrong : ChangeSpec := { name := "hashSums", fn := fun _ => fun
  | [d1, d2, d3] => { results := [.lit (.bool false)], args := [d1, d2, d3] }
  | _ => none }
def HashSumsWrongFalsely : Prop := hashSumsRow.holds Tryd.pinned (OpenSpec.ofChange hashSumsWrong)

/-- 'thwartlaw09.HashMixes': WHATEVER THE INPUT: true; the input reads as it did. -/
def hashMixesSpec : ChangeSpec := { name := "hashMixes", fn := fun _ => fun
  | [d1, d2] => { results := [.lit (.bool true)], args := [d1, d2] }
  | _ => none }
def hashMixesRow : OpenClaim := { program := "yteoggekhjokebaadoor", sum := "ac23d02db731fa44d1be078fca1187e8c3850a48802623cf5a5ce03287f46050", func := "thwart/thwartlaw09.HashMixes", spec := "hashMixes", named := ["thwart/hash.multipliers"], apart := false, laid := [("thwart/hash.multipliers", laid_thwart_hash_multipliers)] }
def HashMixesSaid : Prop := hashMixesRow.holds Tryd.pinned (OpenSpec.ofChange hashMixesSpec)

/-- ITS FALSE NEIGHBOUR: 'it returns false'. Refute it at one input. -/
def hashMixesWrong : ChangeSpec := { name := "hashMixes", fn := fun _ => fun
  | [d1, d2] => { results := [.lit (.bool false)], args := [d1, d2] }
  | _ => none }
def HashMixesWrongFalsely : Prop := hashMixesRow.holds Tryd.pinned (OpenSpec.ofChange hashMixesWrong)

/-- 'thwartlaw09.HashPlaces': WHATEVER THE INPUT: true; the input reads as it did. -/
def hashPlacesSpec : ChangeSpec := { name := "hashPlaces", fn := fun _ => fun
  | [d1, d2] => { results := [.lit (.bool true)], args := [d1, d2] }
  | _ => none }
def hashPlacesRow : OpenClaim := { program := "yteoggekhjokebaadoor", sum := "ac23d02db731fa44d1be078fca1187e8c3850a48802623cf5a5ce03287f46050", func := "thwart/thwartlaw09.HashPlaces", spec := "hashPlaces", named := ["thwart/hash.multipliers"], apart := false, laid := [("thwart/hash.multipliers", laid_thwart_hash_multipliers)] }
def HashPlacesSaid : Prop := hashPlacesRow.holds Tryd.pinned (OpenSpec.ofChange hashPlacesSpec)

/-- ITS FALSE NEIGHBOUR: 'it returns false'. Refute it at one input. -/
def hashPlacesWrong : ChangeSpec := { name := "hashPlaces", fn := fun _ => fun
  | [d1, d2] => { results := [.lit (.bool false)], args := [d1, d2] }
  | _ => none }
def HashPlacesWrongFalsely : Prop := hashPlacesRow.holds Tryd.pinned (OpenSpec.ofChange hashPlacesWrong)

/- THE SECOND FORM. 'bulk': how many values and letters a reading holds, each counted each time it is reached (what is shared counts as often as it is met; a slice's spare places count too). A statement '..UptoSaid' is the law's where the arguments, and the package variables that the reading takes, are together of bulk at most 1048576: NARROWER than '..Said'. Prove '..Said' where nothing that the law and all that it calls make is longer than what came in: it says more and counts as full. Else prove '..UptoSaid'. A law counts once. -/
mutual
def uptoBulk {H : Type} : DataW H → Nat
  | .lit (.string bytes) => bytes.length + 1
  | .lit _ => 1
  | .nil => 1
  | .ptr d => uptoBulk d + 1
  | .slice elems spare => uptoBulkAll elems + uptoBulkAll spare + 1
  | .agg parts => uptoBulkAll parts + 1
  | .iface _ d => uptoBulk d + 1
  | .map entries => uptoBulkEntries entries + 1
  | .held _ => 1
def uptoBulkAll {H : Type} : List (DataW H) → Nat
  | [] => 0
  | d :: r => uptoBulk d + uptoBulkAll r
def uptoBulkEntries {H : Type} : List (Lit × DataW H) → Nat
  | [] => 0
  | x :: r => uptoBulkEntry x + uptoBulkEntries r
def uptoBulkEntry {H : Type} : Lit × DataW H → Nat
  | (.string bytes, d) => bytes.length + uptoBulk d + 1
  | (_, d) => uptoBulk d + 1
 end
def uptoSmall : (H : Type) → List (DataW H) → Bool := fun _ ds => decide (uptoBulkAll ds ≤ 1048576)
def OpenSpec.upto (s : _root_.Go.ChangeSpec) : _root_.Go.OpenSpec := { _root_.Go.OpenSpec.ofChange s with cond := some uptoSmall }

/-- 'thwartlaw09.HashSums', WHERE WHAT IT READS IS OF BULK AT MOST 1048576: true; the input reads as it did. -/
def hashSumsUptoRow : OpenClaim := { program := "yteoggekhjokebaadoor", sum := "ac23d02db731fa44d1be078fca1187e8c3850a48802623cf5a5ce03287f46050", func := "thwart/thwartlaw09.HashSums", spec := "hashSums", named := ["thwart/hash.multipliers"], apart := false, laid := [("thwart/hash.multipliers", laid_thwart_hash_multipliers)], narrowed := true }
def HashSumsUptoSaid : Prop := hashSumsUptoRow.holds Tryd.pinned (OpenSpec.upto hashSumsSpec)

/-- 'thwartlaw09.HashMixes', WHERE WHAT IT READS IS OF BULK AT MOST 1048576: true; the input reads as it did. -/
def hashMixesUptoRow : OpenClaim := { program := "yteoggekhjokebaadoor", sum := "ac23d02db731fa44d1be078fca1187e8c3850a48802623cf5a5ce03287f46050", func := "thwart/thwartlaw09.HashMixes", spec := "hashMixes", named := ["thwart/hash.multipliers"], apart := false, laid := [("thwart/hash.multipliers", laid_thwart_hash_multipliers)], narrowed := true }
def HashMixesUptoSaid : Prop := hashMixesUptoRow.holds Tryd.pinned (OpenSpec.upto hashMixesSpec)

/-- 'thwartlaw09.HashPlaces', WHERE WHAT IT READS IS OF BULK AT MOST 1048576: true; the input reads as it did. -/
def hashPlacesUptoRow : OpenClaim := { program := "yteoggekhjokebaadoor", sum := "ac23d02db731fa44d1be078fca1187e8c3850a48802623cf5a5ce03287f46050", func := "thwart/thwartlaw09.HashPlaces", spec := "hashPlaces", named := ["thwart/hash.multipliers"], apart := false, laid := [("thwart/hash.multipliers", laid_thwart_hash_multipliers)], narrowed := true }
def HashPlacesUptoSaid : Prop := hashPlacesUptoRow.holds Tryd.pinned (OpenSpec.upto hashPlacesSpec)

end Rows
end Go.Proofs.YteoggekhjokebaaDoor
