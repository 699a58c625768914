/- What the rows list of the library's variables: it is met by the heap that the door's own run leaves, and it gives the table of powers of ten, and the two errors of strconv. -/
import Derived.Test.YtkdidinekoaobaaGreatDoorNa
import Derived.Test.YtkdidinekoaobaaGreatDoorRows
import Derived.LaidMore
import Derived.Stop.Joined
import Derived.Stop.LaidErr
import Derived.LaidSub
import Derived.LaidOnce
namespace Go.Proofs.YtkdidinekoaobaaGreatDoor.P
open Go.RowKit J

/-- What all rows of this seat list. -/
abbrev laid8 : List (String × DataW Unit) := Rows.publishBackRow.laid

theorem door_met (os : Os) (args : Array Value) : laidMetH Tryz.prog laid8 ((World.doorLaid Tryz.prog 62 os).forCall (fun _ _ => 0) ⟨#[], args, []⟩).memory :=
  laidMetH_of_parts3 (fuel := 8) (laidMet_of_run' 8 (by kernel_rfl) (by kernel_rfl)) (by kernel_rfl) (by kernel_rfl)

theorem tab_is : (Rows.laid_internal_strconv_uint64pow10 : DataW Unit) = Lib.tabData .u64 Lib.pow10Tab := by kernel_rfl
theorem er_of {W : World} {n : String} {g : Nat} {tp : TypeId} {p : Value} (hn : Tryz.prog.globalNamed n = some g) (h : W.var? Tryz.prog n = some #[.iface tp p]) : Er W g := by
  unfold World.var? at h
  rw [hn] at h
  simp only [Option.bind_some] at h
  split at h
  · rename_i cs t fz hc
    obtain rfl := Option.some.inj h
    exact ⟨tp, p, by rw [cell_of_row W g 0 _ _ fz hc]; rfl⟩
  · cases h

theorem starN : "*" ++ "errors.errorString" = "*errors.errorString" := by decide
theorem errRow (u : TypeId) (h : Tryz.prog.typeName? 3 u = some "*errors.errorString") : u = 202 :=
  typeName_ptr_named (nm := "errors.errorString") (by rw [starN]; kernel_rfl) (by kernel_rfl) (by decide) u (by rw [starN]; exact h)

theorem vt_of_laid {W : World} (h : laidMetH Tryz.prog laid8 W) : Vt W := by
  rw [MakeChecks.laidMetH_plain _ _ _ (by kernel_rfl)] at h
  have h3 := (laidMet.tail (laidMet.tail h))
  have h4 := laidMet.tail h3
  have h5 := laidMet.tail h4
  rw [tab_is] at h3
  have t4 := Lib.tabIs_of_head (by kernel_rfl) (show (Tryz.prog.globals[2]?).map (·.type) = some 213 by kernel_rfl) Tryz.underlying213 Tryz.underlying120 (by kernel_rfl) (by kernel_rfl) h3
  obtain ⟨a1, s1, e1, _⟩ := laid_sentinel h4 (g := 1) (by kernel_rfl) (show (Tryz.prog.globals[1]?).map (·.type) = some 110 by kernel_rfl) Tryz.underlying110 (tp := 202) errRow Tryz.underlying202 Tryz.underlying204 rfl rfl Tryz.underlying9 (by kernel_rfl) (by kernel_rfl)
  obtain ⟨a2, s2, e2, _⟩ := laid_sentinel h5 (g := 0) (by kernel_rfl) (show (Tryz.prog.globals[0]?).map (·.type) = some 110 by kernel_rfl) Tryz.underlying110 (tp := 202) errRow Tryz.underlying202 Tryz.underlying204 rfl rfl Tryz.underlying9 (by kernel_rfl) (by kernel_rfl)
  refine ⟨?_, er_of (by kernel_rfl) e2, er_of (by kernel_rfl) e1⟩
  unfold Lib.TabIs World.var? at t4
  obtain ⟨g, hg, hx⟩ := Option.bind_eq_some_iff.1 t4
  have hg2 : some 2 = some g := by
    rw [← hg]
    kernel_rfl
  obtain rfl : 2 = g := Option.some.inj hg2
  split at hx
  · rename_i cs t fz hc
    obtain rfl := Option.some.inj hx
    exact ⟨_, _, hc⟩
  · cases hx
end Go.Proofs.YtkdidinekoaobaaGreatDoor.P
