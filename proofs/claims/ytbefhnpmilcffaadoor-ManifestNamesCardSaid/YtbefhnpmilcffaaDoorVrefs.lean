/- What the document's own answers of layer 1 return: they are the same plain functions. -/
import Derived.Test.YtbefhnpmilcffaaDoorVtakes
namespace Go.Proofs.YtbefhnpmilcffaaDoor
open Go.RowKit

theorem bs_join (l r : List UInt8) : bs (l ++ r) = bs l ++ bs r := (ByteArray.mk_append_mk l r).symm
theorem bs_plus (l : List UInt8) (r : ByteArray) : bs l ++ r = bs (l ++ r.data.toList) := by rw [bs_join, bs_of]

theorem conv_one (W : World) (b cap : Nat) (c : UInt8) (n : Int) (hn : n = (c.toNat : Int)) (h : W.cell? ⟨b, 0, none⟩ = some (.int .u8 n)) :
    (convert 54 9 (.slice (some ⟨b, 0, none⟩) 1 cap)).run Tryd.prog W = .ok (.string (bs [c])) W := by
  subst hn
  refine run_convert_bytes_back W 54 9 5 ⟨b, 0, none⟩ cap [c] (by kernel_rfl) (by kernel_rfl) (by kernel_rfl) fun j hj => ?_
  have : j = 0 := by simpa using hj
  subst this
  simpa [Addr.add] using h

set_option maxRecDepth 100000 in
set_option maxHeartbeats 400000 in
theorem refput_lo (n : Nat) (w : World) (h : n < 128) :
    Calls Tryd.prog 28 #[.int .u64 (n : Int)] w fun e w' => e = .returned (.string (bs (put n))) ∧ Below w.heap.size w w' := by
  rw [put_lo h]
  have hc := conv_one (w.alloc (.cells #[.int .u8 (n : Int)] 5)) w.heap.size 1 (UInt8.ofNat n) (n : Int) (by rw [toNat_lo h]) (by go_simp)
  have hni : (n : Int) < 128 := by omega
  go_enter Tryd.func28, Tryd.ntmps28
  go_wp2
  go_ret
  exact ⟨rfl, (Below.refl _ _).alloc (Nat.le_refl _) _⟩

set_option maxRecDepth 100000 in
set_option maxHeartbeats 400000 in
theorem refput_hi (n : Nat) (w : World) (h : ¬ n < 128) (hm : n < M64) (ih : ∀ w, Calls Tryd.prog 28 #[.int .u64 ((n : Int) / 128)] w fun e w' => e = .returned (.string (bs (put (n / 128)))) ∧ Below w.heap.size w w') :
    Calls Tryd.prog 28 #[.int .u64 (n : Int)] w fun e w' => e = .returned (.string (bs (put n))) ∧ Below w.heap.size w w' := by
  rw [put_hi h]
  have H := Lib.hid ih
  clear ih
  have hni : ¬ (n : Int) < 128 := by omega
  have hnm : (n : Int) ≤ 18446744073709551615 := by unfold M64 at hm; omega
  have hc : ∀ (W : World) (b : Nat), W.cell? ⟨b, 0, none⟩ = some (.int .u8 (128 + (n : Int) % 128)) → (convert 54 9 (.slice (some ⟨b, 0, none⟩) 1 1)).run Tryd.prog W = .ok (.string (bs [UInt8.ofNat (128 + n % 128)])) W :=
    fun W b hW => conv_one W b 1 _ _ (by rw [toNat_hi]; omega) hW
  have q1 : (n : Int).tmod 128 = (n : Int) % 128 := IntWalk.rem_in _ _ (by omega)
  have q2 : IntKind.u64.wrap (128 + (n : Int) % 128) = 128 + (n : Int) % 128 := IntWalk.u64_in _ ⟨by omega, by omega⟩
  have q3 : IntKind.u8.wrap (128 + (n : Int) % 128) = 128 + (n : Int) % 128 := IntWalk.u8_in _ ⟨by omega, by omega⟩
  have q4 : IntKind.u64.wrap ((n : Int) / 128) = (n : Int) / 128 := IntWalk.u64_in _ ⟨by omega, by omega⟩
  have z1 : (bs [UInt8.ofNat (128 + n % 128)]).size = 1 := bs_size _
  have z2 : (bs (put (n / 128))).size ≤ 10 := by rw [bs_size]; exact put_ten (by unfold M64 at hm ⊢; omega)
  have hsum : ¬ 9223372036854775807 < (bs [UInt8.ofNat (128 + n % 128)]).size + (bs (put (n / 128))).size := by omega
  have hadd := bs_join [UInt8.ofNat (128 + n % 128)] (put (n / 128))
  rw [List.singleton_append] at hadd
  rw [hadd]
  clear h hm z1 z2 hadd
  generalize bs [UInt8.ofNat (128 + n % 128)] = X at *
  generalize bs (put (n / 128)) = Y at *
  go_enter Tryd.func28, Tryd.ntmps28
  go_wp2_with fail
  go_region_with (go_at_call 28; refine (H.out _).mono ?_; rintro e w' ⟨rfl, hb1⟩; have hl := fun b o h => hb1.cell (p := ⟨b, o, none⟩) h)
  all_goals go_wp2
  all_goals go_ret
  · exact ⟨rfl, (((Below.refl _ _).alloc (Nat.le_refl _) _).drew).trans (hb1.mono (by simp))⟩
  · exact ⟨rfl, (((Below.refl _ _).alloc (Nat.le_refl _) _).drew).trans (hb1.mono (by simp))⟩
  · exact ⟨rfl, ((Below.refl _ _).drew.trans hb1).alloc hb1.size _⟩

theorem refput_any (n : Nat) : ∀ (w : World), n < M64 →
    Calls Tryd.prog 28 #[.int .u64 (n : Int)] w fun e w' => e = .returned (.string (bs (put n))) ∧ Below w.heap.size w w' := by
  induction n using Nat.strongRecOn with
  | _ n ih =>
    intro w hm
    by_cases h : n < 128
    · exact refput_lo n w h
    · refine refput_hi n w h hm fun w => ?_
      have := ih (n / 128) (by omega) w (by unfold M64 at hm ⊢; omega)
      rwa [show ((n / 128 : Nat) : Int) = (n : Int) / 128 from by omega] at this

theorem refput_int (n : Int) (w : World) (h0 : 0 ≤ n) (h1 : n ≤ 18446744073709551615) :
    Calls Tryd.prog 28 #[.int .u64 n] w fun e w' => e = .returned (.string (bs (put n.toNat))) ∧ Below w.heap.size w w' := by
  have := refput_any n.toNat w (by unfold M64; omega)
  rwa [Int.toNat_of_nonneg h0] at this



end Go.Proofs.YtbefhnpmilcffaaDoor

