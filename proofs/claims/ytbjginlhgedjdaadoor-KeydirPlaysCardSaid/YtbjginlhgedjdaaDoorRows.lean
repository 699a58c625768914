/-
  NARROWER THAN 'FOR EVERY INPUT', by the rows' own cells (each row's printed sentence says how): KeydirPlays: laid · KeydirMap: laid · KeydirHomes: laid.
  DERIVED. THE GIVEN ROWS OF THIS SEAT. 3 by the template 'for every input the law returns true; each argument reads behind the call as it read before'; 0 by the template 'total and deterministic' (their statements: YtbjginlhgedjdaaDoorTotals.lean).
  GIVEN WITH THE SEED: the statements are not yours to turn. If you find one false, say at which input.
  Laid BY PROGRAM, IN A SANDBOX (cutbox-rows.mjs): the forced cells as the released guide's own fill.sh prints them over the translation 0244e284b8a75186… (all of the seat's roots in one cut). By AI agents, Wed Nov 11 2026. No macro, syntax, notation, axiom, sorry.
-/
import Derived.Test.YtbjginlhgedjdaaDoorChecked
import GoSem.Claim
import GoSem.ClaimJoined
import GoSem.ClaimMapViews
import Derived.JoinedTies
import Derived.KernelRfl
namespace Go.Proofs.YtbjginlhgedjdaaDoor
/- THE CELL 'sum', in the pinned program and in every row, IS THE sha256 OF THE DUMP (.gsa) THAT YtbjginlhgedjdaaDoorProg.lean LOADS. Nothing in Lean hashes anything: it is a label: what it is worth is what the hold of that sum in a sandbox is worth. -/
noncomputable def Tryd.pinned : Pinned := { name := "ytbjginlhgedjdaadoor", sum := "0244e284b8a7518681e51716cf451d7e20c9a47a5f062caa1fe4a03b7480bc17", checked := Tryd.checked }
namespace Rows
def none {H : Type} : Left H := { results := [], args := [] }

/- WHAT THE LISTED PACKAGE-LEVEL VARIABLES READ AS WHEN THE CALL BEGINS. Each datum BY PROGRAM (the guide's laid-datum.mjs) off the statement by which the dump's own 'gosem.cut.vars' lays the variable. In a bare row this is a premise. The card (YtbjginlhgedjdaaDoorCards.lean) ties it to the program's text. -/
def laid_thwart_hash_multipliers {H : Type} : DataW H := .agg [.lit (.int .u64 18397679294719823053), .lit (.int .u64 14181476777654086739)]

/-- 'thwartlaw10.KeydirPlays': WHATEVER THE INPUT: true; the input reads as it did. -/
def keydirPlaysSpec : ChangeSpec := { name := "keydirPlays", fn := fun _ => fun
  | [d1, d2] => { results := [.lit (.bool true)], args := [d1, d2] }
  | _ => none }
def keydirPlaysRow : OpenClaim := { program := "ytbjginlhgedjdaadoor", sum := "0244e284b8a7518681e51716cf451d7e20c9a47a5f062caa1fe4a03b7480bc17", func := "thwart/thwartlaw10.KeydirPlays", spec := "keydirPlays", inPlace := ["internal/bytealg.abigen_runtime_cmpstring"], unfollowed := true, recurses := true, named := ["thwart/hash.multipliers"], apart := false, laid := [("thwart/hash.multipliers", laid_thwart_hash_multipliers)] }
def KeydirPlaysSaid : Prop := keydirPlaysRow.holds Tryd.pinned (OpenSpec.ofChange keydirPlaysSpec)

/-- ITS FALSE NEIGHBOUR: 'it returns false'. Refute it at one input. -/
def keydirPlaysWrong : ChangeSpec := { name := "keydirPlays", fn := fun _ => fun
  | [d1, d2] => { results := [.lit (.bool false)], args := [d1, d2] }
  | _ => none }
def KeydirPlaysWrongFalsely : Prop := keydirPlaysRow.holds Tryd.pinned (OpenSpec.ofChange keydirPlaysWrong)

/-- 'thwartlaw10.KeydirMap': WHATEVER THE INPUT: true; the input reads as it did. -/
def keydirMapSpec : ChangeSpec := { name := "keydirMap", fn := fun _ => fun
  | [d] => { results := [.lit (.bool true)], args := [d] }
  | _ => none }
def keydirMapRow : OpenClaim := { program := "ytbjginlhgedjdaadoor", sum := "0244e284b8a7518681e51716cf451d7e20c9a47a5f062caa1fe4a03b7480bc17", func := "thwart/thwartlaw10.KeydirMap", spec := "keydirMap", inPlace := ["internal/bytealg.abigen_runtime_cmpstring"], unfollowed := true, recurses := true, named := ["thwart/hash.multipliers"], apart := false, laid := [("thwart/hash.multipliers", laid_thwart_hash_multipliers)] }
def KeydirMapSaid : Prop := keydirMapRow.holds Tryd.pinned (OpenSpec.ofChange keydirMapSpec)

/-- ITS FALSE NEIGHBOUR: 'it returns false'. Refute it at one input. -/
def keydirMapWrong : ChangeSpec := { name := "keydirMap", fn := fun _ => fun
  | [d] => { results := [.lit (.bool false)], args := [d] }
  | _ => none }
def KeydirMapWrongFalsely : Prop := keydirMapRow.holds Tryd.pinned (OpenSpec.ofChange keydirMapWrong)

/-- 'thwartlaw10.KeydirHomes': WHATEVER THE INPUT: true; the input reads as it did. -/
def keydirHomesSpec : ChangeSpec := { name := "keydirHomes", fn := fun _ => fun
  | [d] => { results := [.lit (.bool true)], args := [d] }
  | _ => none }
def keydirHomesRow : OpenClaim := { program := "ytbjginlhgedjdaadoor", sum := "0244e284b8a7518681e51716cf451d7e20c9a47a5f062caa1fe4a03b7480bc17", func := "thwart/thwartlaw10.KeydirHomes", spec := "keydirHomes", inPlace := ["internal/bytealg.abigen_runtime_cmpstring"], unfollowed := true, recurses := true, named := ["thwart/hash.multipliers"], apart := false, laid := [("thwart/hash.multipliers", laid_thwart_hash_multipliers)] }
def KeydirHomesSaid : Prop := keydirHomesRow.holds Tryd.pinned (OpenSpec.ofChange keydirHomesSpec)

/-- ITS FALSE NEIGHBOUR: 'it returns false'. Refute it at one input. -/
def keydirHomesWrong : ChangeSpec := { name := "keydirHomes", fn := fun _ => fun
  | [d] => { results := [.lit (.bool false)], args := [d] }
  | _ => none }
def KeydirHomesWrongFalsely : Prop := keydirHomesRow.holds Tryd.pinned (OpenSpec.ofChange keydirHomesWrong)

/- THE SECOND FORM. 'bulk': how many values and letters a reading holds, each counted each time it is reached (what is shared counts as often as it is met; a slice's spare places count too). A statement '..UptoSaid' is the law's where the arguments, and the package variables that the reading takes, are together of bulk at most 1048576: NARROWER than '..Said'. Prove '..Said' where nothing that the law and all that it calls make is longer than what came in: it says more and counts as full. Else prove '..UptoSaid'. A law counts once. -/
mutual
def uptoBulk {H : Type} : DataW H → Nat
  | .lit (.string bytes) => bytes.length + 1
  | .lit _ => 1
  | .nil => 1
  | .ptr d => uptoBulk d + 1
  | .slice elems spare => uptoBulkAll elems + uptoBulkAll spare + 1
  | .agg parts => uptoBulkAll parts + 1
  | .iface _ d => uptoBulk d + 1
  | .map entries => uptoBulkEntries entries + 1
  | .held _ => 1
def uptoBulkAll {H : Type} : List (DataW H) → Nat
  | [] => 0
  | d :: r => uptoBulk d + uptoBulkAll r
def uptoBulkEntries {H : Type} : List (Lit × DataW H) → Nat
  | [] => 0
  | x :: r => uptoBulkEntry x + uptoBulkEntries r
def uptoBulkEntry {H : Type} : Lit × DataW H → Nat
  | (.string bytes, d) => bytes.length + uptoBulk d + 1
  | (_, d) => uptoBulk d + 1
 end
def uptoSmall : (H : Type) → List (DataW H) → Bool := fun _ ds => decide (uptoBulkAll ds ≤ 1048576)
def OpenSpec.upto (s : _root_.Go.ChangeSpec) : _root_.Go.OpenSpec := { _root_.Go.OpenSpec.ofChange s with cond := some uptoSmall }

/-- 'thwartlaw10.KeydirPlays', WHERE WHAT IT READS IS OF BULK AT MOST 1048576: true; the input reads as it did. -/
def keydirPlaysUptoRow : OpenClaim := { program := "ytbjginlhgedjdaadoor", sum := "0244e284b8a7518681e51716cf451d7e20c9a47a5f062caa1fe4a03b7480bc17", func := "thwart/thwartlaw10.KeydirPlays", spec := "keydirPlays", inPlace := ["internal/bytealg.abigen_runtime_cmpstring"], unfollowed := true, recurses := true, named := ["thwart/hash.multipliers"], apart := false, laid := [("thwart/hash.multipliers", laid_thwart_hash_multipliers)], narrowed := true }
def KeydirPlaysUptoSaid : Prop := keydirPlaysUptoRow.holds Tryd.pinned (OpenSpec.upto keydirPlaysSpec)

/-- 'thwartlaw10.KeydirMap', WHERE WHAT IT READS IS OF BULK AT MOST 1048576: true; the input reads as it did. -/
def keydirMapUptoRow : OpenClaim := { program := "ytbjginlhgedjdaadoor", sum := "0244e284b8a7518681e51716cf451d7e20c9a47a5f062caa1fe4a03b7480bc17", func := "thwart/thwartlaw10.KeydirMap", spec := "keydirMap", inPlace := ["internal/bytealg.abigen_runtime_cmpstring"], unfollowed := true, recurses := true, named := ["thwart/hash.multipliers"], apart := false, laid := [("thwart/hash.multipliers", laid_thwart_hash_multipliers)], narrowed := true }
def KeydirMapUptoSaid : Prop := keydirMapUptoRow.holds Tryd.pinned (OpenSpec.upto keydirMapSpec)

/-- 'thwartlaw10.KeydirHomes', WHERE WHAT IT READS IS OF BULK AT MOST 1048576: true; the input reads as it did. -/
def keydirHomesUptoRow : OpenClaim := { program := "ytbjginlhgedjdaadoor", sum := "0244e284b8a7518681e51716cf451d7e20c9a47a5f062caa1fe4a03b7480bc17", func := "thwart/thwartlaw10.KeydirHomes", spec := "keydirHomes", inPlace := ["internal/bytealg.abigen_runtime_cmpstring"], unfollowed := true, recurses := true, named := ["thwart/hash.multipliers"], apart := false, laid := [("thwart/hash.multipliers", laid_thwart_hash_multipliers)], narrowed := true }
def KeydirHomesUptoSaid : Prop := keydirHomesUptoRow.holds Tryd.pinned (OpenSpec.upto keydirHomesSpec)

end Rows
end Go.Proofs.YtbjginlhgedjdaaDoor
