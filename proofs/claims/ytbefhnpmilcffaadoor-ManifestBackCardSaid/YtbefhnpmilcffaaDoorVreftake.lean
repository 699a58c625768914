/- What the document's own Take and OfText return: the same plain functions. -/
import Derived.Test.YtbefhnpmilcffaaDoorVrefs
namespace Go.Proofs.YtbefhnpmilcffaaDoor
open Go.RowKit

theorem wrap_nat (z : Nat) : IntKind.u64.wrap (z : Int) = ((z % M64 : Nat) : Int) := by rw [IntKind.wrap_u64]; rfl
theorem mod_step (x m c : Nat) : (IntKind.u64.wrap ((x : Int) + IntKind.u64.wrap ((m : Int) * ((c : Int) % 128)))) = (((x + m * (c % 128)) % M64 : Nat) : Int) := by
  have e : (m : Int) * ((c : Int) % 128) = ((m * (c % 128) : Nat) : Int) := by push_cast; rfl
  rw [e, wrap_nat, ← Int.natCast_add, wrap_nat, Nat.add_mod_mod]
theorem mod_mul (m : Nat) : IntKind.u64.wrap ((m : Int) * 128) = ((m * 128 % M64 : Nat) : Int) := by
  have e : (m : Int) * 128 = ((m * 128 : Nat) : Int) := by push_cast; rfl
  rw [e, wrap_nat]

theorem valM_next (b : ByteArray) (k : Nat) (h : k < b.size) : valM (b.data.toList.take (k + 1)) = (valM (b.data.toList.take k) + 128 ^ k % M64 * (b[k].toNat % 128)) % M64 := by
  have hl : (b.data.toList.take k).length = k := by rw [List.length_take, len_size]; omega
  rw [valM, valM, take_snoc b k h, val_snoc, hl]
  generalize val (b.data.toList.take k) = v
  generalize 128 ^ k = q
  generalize b[k].toNat % 128 = c
  generalize M64 = M
  simp [Nat.add_mod, Nat.mul_mod]
theorem pow_next (k : Nat) : 128 ^ k % M64 * 128 % M64 = 128 ^ (k + 1) % M64 := by
  rw [Nat.pow_succ, Nat.mul_mod, Nat.mod_mod, ← Nat.mul_mod]

set_option maxRecDepth 100000 in
set_option maxHeartbeats 400000 in
theorem reftake_any (b : ByteArray) (w : World) (hb : b.size ≤ 9223372036854775807) :
    Calls Tryd.prog 33 #[.string b] w fun e w' => e = .returned (tkV b.data.toList) ∧ Below w.heap.size w w' := by
  go_enter Tryd.func33, Tryd.ntmps33
  go_wp2
  go_loop [5, 6, 7] (fun n m i => ∃ (k x y : Nat), k ≤ 10 ∧ k ≤ b.size ∧ i = .int .i64 k ∧ n = .int .u64 x ∧ m = .int .u64 y ∧ x = valM (b.data.toList.take k) ∧ y = 128 ^ k % M64 ∧ NoEnd b k) (fun _ _ i => 10 - (intOf i).toNat)
  case atStart => exact ⟨0, 0, 1, by omega, by omega, rfl, rfl, rfl, rfl, by unfold M64; decide, fun j _ h => by omega⟩
  case round =>
    obtain ⟨k, x, y, hk10, hks, rfl, rfl, rfl, hx, hy, hn⟩ := hrel
    have HX := Lib.hid hx
    have HY := Lib.hid hy
    have HN := Lib.hid hn
    clear hx hy hn
    by_cases h10 : k < 10
    · by_cases hsz : k = b.size
      · have hq : ((k : Int) == (b.size : Int)) = true := by rw [beq_iff_eq]; omega
        have HS := Lib.hid (sz_never HN.out (by omega))
        have hsz' : k ≥ b.size := by omega
        clear hsz
        go_wp2
        go_ret3
        refine ⟨?_, Below.refl _ _⟩
        rw [tkV, tk_short HS.out (by rw [len_size]; omega)]; rfl
      · have hq : ((k : Int) == (b.size : Int)) = false := beq_eq_false_iff_ne.2 (by omega)
        have hlt : k < b.size := by omega
        clear hsz
        have hst := mod_step x y b[k].toNat
        have hmu := mod_mul y
        have e1 := valM_next b k hlt
        have e2 := pow_next k
        rw [← HX.out, ← HY.out] at e1
        rw [← HY.out] at e2
        rw [← e1] at hst
        rw [e2] at hmu
        have hxl := valM_lt (b.data.toList.take (k + 1))
        obtain ⟨x', hx'⟩ : ∃ x', x' = valM (b.data.toList.take (k + 1)) := ⟨_, rfl⟩
        obtain ⟨y', hy'⟩ : ∃ y', y' = 128 ^ (k + 1) % M64 := ⟨_, rfl⟩
        rw [← hx'] at hst hxl
        rw [← hy'] at hmu
        have HX' := Lib.hid hx'
        have HY' := Lib.hid hy'
        clear e1 e2 hx' hy' HX HY
        by_cases hc : b[k].toNat < 128
        · have HZ := Lib.hid (sz_at HN.out h10 hlt hc)
          have hput : ∀ w, Calls Tryd.prog 28 #[.int .u64 (x' : Int)] w fun e w' => e = .returned (.string (bs (put x'))) ∧ Below w.heap.size w w' := fun w => refput_any x' w hxl
          have HP := Lib.hid hput
          have HF := Lib.hid (ext_from b (k + 1))
          have p1 : IntKind.i64.wrap ((k : Int) + 1) = (k : Int) + 1 := IntWalk.i64_in _ ⟨by omega, by omega⟩
          have p2 : ((k : Int) + 1).toNat = k + 1 := by omega
          have p3 : (0 : Int) ≤ (k : Int) + 1 := by omega
          have p4 : (k : Int) + 1 ≤ (b.size : Int) := by omega
          clear hput
          by_cases hp : put x' = b.data.toList.take (k + 1)
          · have hcmp : ((bs (put x')).toList == (b.extract 0 (k + 1)).toList) = true := by rw [ext_to, bs_toList, bs_toList, hp]; simp
            have hfin : tkV b.data.toList = .tuple #[.int .u64 (x' : Nat), .string (b.extract (k + 1) b.size), .int .i64 0] := by
              rw [HF.out, tkV, tk_yes (by rw [HZ.out]; omega) (by rw [HZ.out, ← HX'.out, hp]), HZ.out, ← HX'.out]; rfl
            have HFIN := Lib.hid hfin
            clear hp hfin
            go_wp2_with fail
            go_region_with (go_at_call 28; refine (HP.out _).mono ?_; rintro e w' ⟨rfl, hb1⟩)
            go_wp2_with fail
            go_quiet (fail)
            go_wp2
            go_ret3
            exact ⟨by rw [HFIN.out]; rfl, below_drewN ((Below.refl _ _).drew.trans hb1) nq⟩
          · have hcmp : ((bs (put x')).toList == (b.extract 0 (k + 1)).toList) = false := by rw [ext_to, bs_toList, bs_toList]; simpa using hp
            have hfin : tkV b.data.toList = .tuple #[.int .u64 0, .string (bs []), .int .i64 2] := by
              rw [tkV, tk_no (by rw [HZ.out]; omega) (by rw [HZ.out, ← HX'.out]; exact hp)]; rfl
            have HFIN := Lib.hid hfin
            clear hp hfin
            go_wp2_with fail
            go_region_with (go_at_call 28; refine (HP.out _).mono ?_; rintro e w' ⟨rfl, hb1⟩)
            go_wp2
            go_ret3
            exact ⟨by rw [HFIN.out]; rfl, (Below.refl _ _).drew.trans hb1⟩
        · have HN' := Lib.hid (noEnd_succ HN.out hlt hc)
          go_wp2
          go_round
          case rel => exact ⟨k + 1, x', y', by omega, by omega, by go_num, rfl, rfl, HX'.out, HY'.out, HN'.out⟩
          case measure => simp [intOf]; omega
    · have HS := Lib.hid (sz_never HN.out (by omega))
      go_wp2
      go_ret3
      refine ⟨?_, Below.refl _ _⟩
      rw [tkV, tk_long HS.out (by rw [len_size]; omega)]; rfl



end Go.Proofs.YtbefhnpmilcffaaDoor

