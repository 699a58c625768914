/- PublishOnce, in the order of the law's arguments. -/
import Derived.Test.YtkdidinekoaobaaGreatDoorPoncea
import Derived.Test.YtkdidinekoaobaaGreatDoorPopens
namespace Go.Proofs.YtkdidinekoaobaaGreatDoor.P
open Go.RowKit M J

theorem once_of (C : PubC) (zs : List Int) (a1 : Option Addr) (c1 : Nat) (fs : List (List Int)) (a2 : Option Addr) (c2 : Nat) (w : World) (hV : Vt w)
    (h1 : zs.length ≤ 9223372036854775807) (h2 : Vals w a1 (zs.map (Value.int .i64))) (_h3 : ∀ y ∈ zs, -9223372036854775808 ≤ y ∧ y ≤ 9223372036854775807) (h4 : fs.length ≤ 9223372036854775807) (h5 : FatesIn w a2 fs) (h6 : ∀ l ∈ fs, ∀ y ∈ l, -9223372036854775808 ≤ y ∧ y ≤ 9223372036854775807) :
    Calls Tryz.prog 5 #[.slice a1 zs.length c1, .slice a2 fs.length c2] w fun e w' => e = .returned (.bool true) ∧ Below w.heap.size w w' :=
  once_walk C zs fs a1 a2 c1 c2 w hV h2 h5 h6 h1 h4
end Go.Proofs.YtkdidinekoaobaaGreatDoor.P
