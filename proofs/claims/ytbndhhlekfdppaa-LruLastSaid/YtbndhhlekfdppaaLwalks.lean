/- Both laws of layer 11, whatever comes in. -/
import Derived.Test.YtbndhhlekfdppaaLptotal
import Derived.Test.YtbndhhlekfdppaaLplays
import Derived.Test.YtbndhhlekfdppaaLlast
namespace Go.Proofs.Ytbndhhlekfdppaa.L
open Go.RowKit Go.Maps
set_option linter.unusedVariables false
theorem plays_walk (most : Int) (l : List Lop) (a : Option Addr) (cap : Nat) (w : World) (hmr : -9223372036854775808 ≤ most ∧ most ≤ 9223372036854775807) (hl : l.length ≤ 9223372036854775807) (hK : LopsIn w a l) (hf : ∀ o ∈ l, o.fit) :
    Calls Try.prog 3 #[.int .i64 most, .slice a l.length cap] w fun e w' => e = .returned (.bool true) ∧ Below w.heap.size w w' := by
  by_cases hm : most < 1 ∨ 64 < most
  · exact plays_no cacheP most l a cap w hm hmr hl
  · obtain ⟨m, rfl⟩ : ∃ m : Nat, most = m := ⟨most.toNat, by omega⟩
    exact plays_yes cacheP m l a cap w ⟨by omega, by omega⟩ hl hK hf
theorem last_walk (most : Int) (l : List Lop) (a : Option Addr) (cap : Nat) (w : World) (hmr : -9223372036854775808 ≤ most ∧ most ≤ 9223372036854775807) (hl : l.length ≤ 9223372036854775807) (hK : LopsIn w a l) (hf : ∀ o ∈ l, o.fit) :
    Calls Try.prog 4 #[.int .i64 most, .slice a l.length cap] w fun e w' => e = .returned (.bool true) ∧ Below w.heap.size w w' := by
  by_cases hm : most < 1 ∨ 64 < most
  · exact last_no cacheP most l a cap w hm hmr hl
  · obtain ⟨m, rfl⟩ : ∃ m : Nat, most = m := ⟨most.toNat, by omega⟩
    by_cases hb : 100 < l.length
    · exact last_big cacheP m l a cap w ⟨by omega, by omega⟩ hl hb
    · exact last_yes cacheP m l a cap w ⟨by omega, by omega⟩ (by omega) hK hf
end Go.Proofs.Ytbndhhlekfdppaa.L
