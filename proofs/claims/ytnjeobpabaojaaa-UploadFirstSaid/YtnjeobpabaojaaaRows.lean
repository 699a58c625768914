/-
  No cell of these rows narrows 'for every input' (looked for: loops, veiled, ifaces, maps, wideKeys, modest, calm, conditions, laid).
  DERIVED. THE GIVEN ROWS OF THIS SEAT. 3 by the template 'for every input the law returns true; each argument reads behind the call as it read before'; 0 by the template 'total and deterministic' (their statements: YtnjeobpabaojaaaTotals.lean).
  GIVEN WITH THE SEED: the statements are not yours to turn. If you find one false, say at which input.
  Laid BY PROGRAM, IN A SANDBOX (cutbox-rows.mjs): the forced cells as the released guide's own fill.sh prints them over the translation 09ceccbe5a583f9b… (all of the seat's roots in one cut). By AI agents, Wed Nov 11 2026. No macro, syntax, notation, axiom, sorry.
-/
import Derived.Test.YtnjeobpabaojaaaChecked
import GoSem.Claim
import GoSem.ClaimJoined
import GoSem.ClaimMapViews
import Derived.JoinedTies
import Derived.KernelRfl
namespace Go.Proofs.Ytnjeobpabaojaaa
/- THE CELL 'sum', in the pinned program and in every row, IS THE sha256 OF THE DUMP (.gsa) THAT YtnjeobpabaojaaaProg.lean LOADS. Nothing in Lean hashes anything: it is a label: what it is worth is what the hold of that sum in a sandbox is worth. -/
noncomputable def Try.pinned : Pinned := { name := "ytnjeobpabaojaaa", sum := "09ceccbe5a583f9bb03048e1734d6aae6d431f6ef10dca3257bdcc95420959ba", checked := Try.checked }
namespace Rows
def none {H : Type} : Left H := { results := [], args := [] }

/-- 'thwartlaw14.UploadFirst': WHATEVER THE INPUT: true; the input reads as it did. -/
def uploadFirstSpec : ChangeSpec := { name := "uploadFirst", fn := fun _ => fun
  | [d1, d2] => { results := [.lit (.bool true)], args := [d1, d2] }
  | _ => none }
def uploadFirstRow : OpenClaim := { program := "ytnjeobpabaojaaa", sum := "09ceccbe5a583f9bb03048e1734d6aae6d431f6ef10dca3257bdcc95420959ba", func := "thwart/thwartlaw14.UploadFirst", spec := "uploadFirst", apart := false }
def UploadFirstSaid : Prop := uploadFirstRow.holds Try.pinned (OpenSpec.ofChange uploadFirstSpec)

/-- ITS FALSE NEIGHBOUR: 'it returns false'. Refute it at one input. -/
def uploadFirstWrong : ChangeSpec := { name := "uploadFirst", fn := fun _ => fun
  | [d1, d2] => { results := [.lit (.bool false)], args := [d1, d2] }
  | _ => none }
def UploadFirstWrongFalsely : Prop := uploadFirstRow.holds Try.pinned (OpenSpec.ofChange uploadFirstWrong)

/-- 'thwartlaw14.UploadBound': WHATEVER THE INPUT: true; the input reads as it did. -/
def uploadBoundSpec : ChangeSpec := { name := "uploadBound", fn := fun _ => fun
  | [d1, d2, d3] => { results := [.lit (.bool true)], args := [d1, d2, d3] }
  | _ => none }
def uploadBoundRow : OpenClaim := { program := "ytnjeobpabaojaaa", sum := "09ceccbe5a583f9bb03048e1734d6aae6d431f6ef10dca3257bdcc95420959ba", func := "thwart/thwartlaw14.UploadBound", spec := "uploadBound", apart := false }
def UploadBoundSaid : Prop := uploadBoundRow.holds Try.pinned (OpenSpec.ofChange uploadBoundSpec)

/-- ITS FALSE NEIGHBOUR: 'it returns false'. Refute it at one input. -/
def uploadBoundWrong : ChangeSpec := { name := "uploadBound", fn := fun _ => fun
  | [d1, d2, d3] => { results := [.lit (.bool false)], args := [d1, d2, d3] }
  | _ => none }
def UploadBoundWrongFalsely : Prop := uploadBoundRow.holds Try.pinned (OpenSpec.ofChange uploadBoundWrong)

/-- 'thwartlaw14.UploadWays': WHATEVER THE INPUT: true; the input reads as it did. -/
def uploadWaysSpec : ChangeSpec := { name := "uploadWays", fn := fun _ => fun
  | [d1, d2, d3] => { results := [.lit (.bool true)], args := [d1, d2, d3] }
  | _ => none }
def uploadWaysRow : OpenClaim := { program := "ytnjeobpabaojaaa", sum := "09ceccbe5a583f9bb03048e1734d6aae6d431f6ef10dca3257bdcc95420959ba", func := "thwart/thwartlaw14.UploadWays", spec := "uploadWays", apart := false }
def UploadWaysSaid : Prop := uploadWaysRow.holds Try.pinned (OpenSpec.ofChange uploadWaysSpec)

/-- ITS FALSE NEIGHBOUR: 'it returns false'. Refute it at one input. -/
def uploadWaysWrong : ChangeSpec := { name := "uploadWays", fn := fun _ => fun
  | [d1, d2, d3] => { results := [.lit (.bool false)], args := [d1, d2, d3] }
  | _ => none }
def UploadWaysWrongFalsely : Prop := uploadWaysRow.holds Try.pinned (OpenSpec.ofChange uploadWaysWrong)

/- THE SECOND FORM. 'bulk': how many values and letters a reading holds, each counted each time it is reached (what is shared counts as often as it is met; a slice's spare places count too). A statement '..UptoSaid' is the law's where the arguments, and the package variables that the reading takes, are together of bulk at most 1048576: NARROWER than '..Said'. Prove '..Said' where nothing that the law and all that it calls make is longer than what came in: it says more and counts as full. Else prove '..UptoSaid'. A law counts once. -/
mutual
def uptoBulk {H : Type} : DataW H → Nat
  | .lit (.string bytes) => bytes.length + 1
  | .lit _ => 1
  | .nil => 1
  | .ptr d => uptoBulk d + 1
  | .slice elems spare => uptoBulkAll elems + uptoBulkAll spare + 1
  | .agg parts => uptoBulkAll parts + 1
  | .iface _ d => uptoBulk d + 1
  | .map entries => uptoBulkEntries entries + 1
  | .held _ => 1
def uptoBulkAll {H : Type} : List (DataW H) → Nat
  | [] => 0
  | d :: r => uptoBulk d + uptoBulkAll r
def uptoBulkEntries {H : Type} : List (Lit × DataW H) → Nat
  | [] => 0
  | x :: r => uptoBulkEntry x + uptoBulkEntries r
def uptoBulkEntry {H : Type} : Lit × DataW H → Nat
  | (.string bytes, d) => bytes.length + uptoBulk d + 1
  | (_, d) => uptoBulk d + 1
 end
def uptoSmall : (H : Type) → List (DataW H) → Bool := fun _ ds => decide (uptoBulkAll ds ≤ 1048576)
def OpenSpec.upto (s : _root_.Go.ChangeSpec) : _root_.Go.OpenSpec := { _root_.Go.OpenSpec.ofChange s with cond := some uptoSmall }

/-- 'thwartlaw14.UploadFirst', WHERE WHAT IT READS IS OF BULK AT MOST 1048576: true; the input reads as it did. -/
def uploadFirstUptoRow : OpenClaim := { program := "ytnjeobpabaojaaa", sum := "09ceccbe5a583f9bb03048e1734d6aae6d431f6ef10dca3257bdcc95420959ba", func := "thwart/thwartlaw14.UploadFirst", spec := "uploadFirst", apart := false, narrowed := true }
def UploadFirstUptoSaid : Prop := uploadFirstUptoRow.holds Try.pinned (OpenSpec.upto uploadFirstSpec)

/-- 'thwartlaw14.UploadBound', WHERE WHAT IT READS IS OF BULK AT MOST 1048576: true; the input reads as it did. -/
def uploadBoundUptoRow : OpenClaim := { program := "ytnjeobpabaojaaa", sum := "09ceccbe5a583f9bb03048e1734d6aae6d431f6ef10dca3257bdcc95420959ba", func := "thwart/thwartlaw14.UploadBound", spec := "uploadBound", apart := false, narrowed := true }
def UploadBoundUptoSaid : Prop := uploadBoundUptoRow.holds Try.pinned (OpenSpec.upto uploadBoundSpec)

/-- 'thwartlaw14.UploadWays', WHERE WHAT IT READS IS OF BULK AT MOST 1048576: true; the input reads as it did. -/
def uploadWaysUptoRow : OpenClaim := { program := "ytnjeobpabaojaaa", sum := "09ceccbe5a583f9bb03048e1734d6aae6d431f6ef10dca3257bdcc95420959ba", func := "thwart/thwartlaw14.UploadWays", spec := "uploadWays", apart := false, narrowed := true }
def UploadWaysUptoSaid : Prop := uploadWaysUptoRow.holds Try.pinned (OpenSpec.upto uploadWaysSpec)

end Rows
end Go.Proofs.Ytnjeobpabaojaaa
