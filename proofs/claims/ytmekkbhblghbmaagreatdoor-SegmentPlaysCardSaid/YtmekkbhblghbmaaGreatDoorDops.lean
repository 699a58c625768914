/- What a call leaves of a disk's room. (In a seat without the laws of the disk: of disk/XDops the part that speaks of no law's call.) -/
import Derived.Test.YtmekkbhblghbmaaGreatDoorBopens
import Derived.Test.YtmekkbhblghbmaaGreatDoorDb
import Derived.Deep.DeepCutAuto
namespace Go.Proofs.YtmekkbhblghbmaaGreatDoor.D
set_option maxRecDepth 100000
open Go.RowKit Go.ChangeShapes Go.WideShapes Go.Joins Go.Deep
set_option linter.unusedVariables false

theorem bs_app (a b : List UInt8) : bs (a ++ b) = bs a ++ bs b := by
  apply ByteArray.ext
  apply Array.ext'
  simp [bs]
theorem bs_take (s : List UInt8) (d : Nat) : (bs s).extract 0 d = bs (s.take d) := by
  apply ByteArray.ext
  apply Array.ext'
  simp [bs]
theorem slice_str (s : List UInt8) (d : Nat) (hd : d ≤ s.length) (W : World) : (Instr.slice 9 (.string (bs s)) none (some (.int .i64 (d : Int))) none).run Tryz.prog W = .ok (.string (bs (s.take d))) W := by
  rw [run_slice_string_h (P := Tryz.prog) (w := W) (t := 9) (s := bs s) (ht := by kernel_rfl) .i64 (d : Int) (by omega) (by rw [bs_size]; omega), Int.toNat_natCast, bs_take]

/-! ### what a call leaves of a disk's room -/
theorem length_wo (l : List Fl) (n : List UInt8) : (wo Fl.nm l n).length ≤ l.length := List.length_filter_le _ _
theorem room_puts (S : St) (f : Fl) : (puts S f).room = S.room := rfl
theorem len_puts (S : St) (f : Fl) : (puts S f).fs.length ≤ S.fs.length + 1 := by
  simp only [puts, length_ins]
  have := length_wo S.fs f.nm
  omega

theorem ap_room (S : St) (n b : List UInt8) : (apS S n b).room = S.room ∧ (apS S n b).fs.length ≤ S.fs.length + 1 := by
  unfold apS
  have h1 := len_puts (burnt S) (apF S n b)
  rw [fs_burnt] at h1
  have h2 := room_burnt S
  split
  · split
    · exact ⟨h2, h1⟩
    · exact ⟨h2, by rw [fs_burnt]; omega⟩
  · exact ⟨rfl, by omega⟩

theorem ap_full (S : St) (n b : List UInt8) (h : apE S n b = 6) : left S < b.length := by
  unfold apE at h
  split at h
  · split at h
    · split at h
      · omega
      · omega
    · omega
  · omega

theorem rn_room (S : St) (n m : List UInt8) : (rnS S n m).room = S.room ∧ (rnS S n m).fs.length ≤ S.fs.length + 1 := by
  unfold rnS
  have h2 := room_burnt S
  split
  · exact ⟨rfl, by omega⟩
  · rename_i f _
    split
    · split
      · have h1 := len_puts { burnt S with fs := wo Fl.nm S.fs n } { f with nm := m }
        have h3 := length_wo S.fs n
        exact ⟨h2, Nat.le_trans h1 (by dsimp only; omega)⟩
      · exact ⟨h2, by rw [fs_burnt]; omega⟩
    · exact ⟨rfl, by omega⟩

theorem rm_room (S : St) (n : List UInt8) : (rmS S n).room = S.room ∧ (rmS S n).fs.length ≤ S.fs.length + 1 := by
  unfold rmS
  have h2 := room_burnt S
  split
  · exact ⟨rfl, by omega⟩
  · split
    · have h3 := length_wo S.fs n
      exact ⟨h2, by dsimp only; omega⟩
    · exact ⟨h2, by rw [fs_burnt]; omega⟩

theorem ct_room (S : St) (n : List UInt8) (m : Int) : (ctS S n m).room = S.room ∧ (ctS S n m).fs.length ≤ S.fs.length + 1 := by
  unfold ctS
  have h2 := room_burnt S
  split
  · exact ⟨rfl, by omega⟩
  · rename_i f _
    split
    · split
      · have h1 := len_puts (burnt S) { f with bt := f.bt.take m.toNat, sure := min f.sure m.toNat }
        rw [fs_burnt] at h1
        exact ⟨h2, h1⟩
      · exact ⟨h2, by rw [fs_burnt]; omega⟩
    · exact ⟨rfl, by omega⟩
end Go.Proofs.YtmekkbhblghbmaaGreatDoor.D
