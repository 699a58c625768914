/- What the calls of package hash return: fold, Sum, Mix and Place; and the document's own. -/
import Derived.Test.YtbjginlhgedjdaaDoorAbase
namespace Go.Proofs.YtbjginlhgedjdaaDoor
open Go.RowKit
set_option linter.unusedVariables false

/-- The two multipliers lie in their own block, ahead of B. -/
def mulRow : Array Value := #[.int .u64 18397679294719823053, .int .u64 14181476777654086739]
def Ml (B : Nat) (w : World) : Prop := 0 < B ∧ ∃ t fz, w.heap[0]? = some (.cells mulRow t fz)

theorem xor33 {n : Nat} (h : n < W64) : bits .xor .u64 (n : Int) ((n : Int) / 8589934592) = ((x33 n : Nat) : Int) := by
  unfold W64 at h
  have := u64_xor_nat n (n / 8589934592) h (by omega)
  rw [x33, ← this]; rfl

set_option maxHeartbeats 400000 in
theorem fold_any (n : Nat) (w : World) (h : n < W64) :
    Calls Tryd.prog 43 #[.int .u64 (n : Int)] w fun e w' => e = .returned (.int .u64 ((x33 n : Nat) : Int)) ∧ w = w' := by
  have hx := xor33 h
  have hl : n < 18446744073709551616 := h
  generalize x33 n = s at *
  go_enter Tryd.func43, Tryd.ntmps43
  go_wp2
  go_ret
  exact ⟨rfl, rfl⟩

theorem Ml.cells {B : Nat} {w : World} (h : Ml B w) : w.cell? ⟨0, 0, none⟩ = some (.int .u64 18397679294719823053) ∧ w.cell? ⟨0, 1, none⟩ = some (.int .u64 14181476777654086739) := by
  obtain ⟨_, t, fz, hg⟩ := h
  exact ⟨cell_of_row w _ 0 _ _ fz hg, cell_of_row w _ 1 _ _ fz hg⟩

theorem at0 (w : World) : (Instr.index 77 (.agg #[.int .u64 18397679294719823053, .int .u64 14181476777654086739]) (.int .i64 0)).run Tryd.prog w = .ok (.int .u64 18397679294719823053) w := by kernel_rfl
theorem at1 (w : World) : (Instr.index 77 (.agg #[.int .u64 18397679294719823053, .int .u64 14181476777654086739]) (.int .i64 1)).run Tryd.prog w = .ok (.int .u64 14181476777654086739) w := by kernel_rfl

theorem wrap_m64 (c n : Nat) : IntKind.u64.wrap ((n : Int) * (c : Int)) = ((m64 c n : Nat) : Int) := by
  rw [IntKind.wrap_u64]
  exact (Int.natCast_emod _ _).symm
theorem wrapA (n : Nat) : IntKind.u64.wrap ((n : Int) * 18397679294719823053) = ((m64 18397679294719823053 n : Nat) : Int) := wrap_m64 _ n
theorem wrapB (n : Nat) : IntKind.u64.wrap ((n : Int) * 14181476777654086739) = ((m64 14181476777654086739 n : Nat) : Int) := wrap_m64 _ n
theorem mixN_is (n : Nat) : mixN n = x33 (m64 14181476777654086739 (x33 (m64 18397679294719823053 (x33 n)))) := rfl

set_option maxRecDepth 100000 in
set_option maxHeartbeats 400000 in
theorem mix_any {B : Nat} (n : Nat) (w : World) (h : n < W64) (hM : Ml B w) :
    Calls Tryd.prog 39 #[.int .u64 (n : Int)] w fun e w' => e = .returned (.int .u64 ((mixN n : Nat) : Int)) ∧ w = w' := by
  obtain ⟨c0, c1⟩ := hM.cells
  clear hM
  obtain ⟨x, hx⟩ : ∃ x, x = x33 n := ⟨_, rfl⟩
  obtain ⟨y, hy⟩ : ∃ y, y = m64 18397679294719823053 x := ⟨_, rfl⟩
  obtain ⟨z, hz⟩ : ∃ z, z = m64 14181476777654086739 (x33 y) := ⟨_, rfl⟩
  have hm : mixN n = x33 z := by rw [mixN_is, hz, hy, hx]
  have h1 := fold_any n w h
  rw [← hx] at h1
  have hyl : y < W64 := by rw [hy]; exact m64_lt _ _
  have hzl : z < W64 := by rw [hz]; exact m64_lt _ _
  have hA := wrapA x
  rw [← hy] at hA
  have hB := wrapB (x33 y)
  rw [← hz] at hB
  rw [hm]
  have H1 := Lib.hid h1; have HA := Lib.hid hA; have HB := Lib.hid hB
  clear hx hy hz hm h1 hA hB
  go_enter Tryd.func39, Tryd.ntmps39
  go_wp2_with fail
  refine H1.out.mono ?_
  rintro e w1 ⟨rfl, rfl⟩
  go_wp2_with fail
  go_loop [0, 8] (fun c i => (i = .int .i64 0 ∧ c = .int .u64 ((x : Nat) : Int)) ∨ (i = .int .i64 1 ∧ c = .int .u64 ((x33 y : Nat) : Int)) ∨ (i = .int .i64 2 ∧ c = .int .u64 ((x33 z : Nat) : Int))) (fun _ i => 2 - (intOf i).toNat)
  case atStart => exact Or.inl ⟨rfl, rfl⟩
  case round =>
    rcases hrel with ⟨rfl, rfl⟩ | ⟨rfl, rfl⟩ | ⟨rfl, rfl⟩
    · go_wp2_with fail
      rw [at0]
      go_wp2_with fail
      rw [HA.out]
      refine (fold_any y _ hyl).mono ?_
      rintro e w2 ⟨rfl, rfl⟩
      go_wp2_with fail
      go_round
      case rel => exact Or.inr (Or.inl ⟨by go_num, rfl⟩)
      case measure => simp [intOf]
    · go_wp2_with fail
      rw [at1]
      go_wp2_with fail
      rw [HB.out]
      refine (fold_any z _ hzl).mono ?_
      rintro e w2 ⟨rfl, rfl⟩
      go_wp2_with fail
      go_round
      case rel => exact Or.inr (Or.inr ⟨by go_num, rfl⟩)
      case measure => simp [intOf]
    · go_wp2_with fail
      go_ret
      exact ⟨rfl, rfl⟩

theorem div33 {n : Nat} (h : n < W64) : IntKind.u64.wrap ((n : Int).tdiv 8589934592) = (n : Int) / 8589934592 := by
  unfold W64 at h
  rw [IntKind.wrap_u64, Int.tdiv_eq_ediv_of_nonneg (by omega)]
  omega
theorem xorw {a b : Nat} (ha : a < W64) (hb : b < W64) : bits .xor .u64 (a : Int) (b : Int) = ((a ^^^ b : Nat) : Int) := u64_xor_nat a b ha hb

set_option maxRecDepth 100000 in
set_option maxHeartbeats 400000 in
theorem refmix_any (n : Nat) (w : World) (h : n < W64) :
    Calls Tryd.prog 34 #[.int .u64 (n : Int)] w fun e w' => e = .returned (.int .u64 ((mixN n : Nat) : Int)) ∧ w = w' := by
  obtain ⟨x, hx⟩ : ∃ x, x = x33 n := ⟨_, rfl⟩
  obtain ⟨y, hy⟩ : ∃ y, y = m64 18397679294719823053 x := ⟨_, rfl⟩
  obtain ⟨u, hu⟩ : ∃ u, u = x33 y := ⟨_, rfl⟩
  obtain ⟨z, hz⟩ : ∃ z, z = m64 14181476777654086739 u := ⟨_, rfl⟩
  obtain ⟨v, hv⟩ : ∃ v, v = x33 z := ⟨_, rfl⟩
  have hm : mixN n = v := by rw [mixN_is, hv, hz, hu, hy, hx]
  have hyl : y < W64 := by rw [hy]; exact m64_lt _ _
  have hzl : z < W64 := by rw [hz]; exact m64_lt _ _
  have e1 := xor33 h
  rw [← hx] at e1
  have e2 := xor33 hyl
  rw [← hu] at e2
  have e3 := xor33 hzl
  rw [← hv] at e3
  have hA := wrapA x
  rw [← hy] at hA
  have hB := wrapB u
  rw [← hz] at hB
  have hD := div33 hyl
  have hE := div33 hzl
  rw [hm]
  unfold W64 at *
  clear hx hy hz hu hv hm
  go_enter Tryd.func34, Tryd.ntmps34
  go_wp2
  go_ret
  exact ⟨rfl, rfl⟩

theorem wrapS (n : Nat) : IntKind.u64.wrap ((n : Int) * 1099511628211) = ((m64 1099511628211 n : Nat) : Int) := wrap_m64 _ n
theorem step_xor (n : Nat) (b : UInt8) (h : n < W64) : ∃ x : Nat, bits .xor .u64 (n : Int) (b.toNat : Int) = (x : Int) ∧ IntKind.u64.wrap ((x : Int) * 1099511628211) = ((stepN n b : Nat) : Int) := by
  have hb := b.toNat_lt
  exact ⟨n ^^^ b.toNat, xorw h (by unfold W64; omega), wrapS _⟩

set_option maxRecDepth 100000 in
set_option maxHeartbeats 400000 in
theorem sum_any (b : ByteArray) (w : World) (hb : b.size ≤ 9223372036854775807) :
    Calls Tryd.prog 40 #[.string b] w fun e w' => e = .returned (.int .u64 ((sumN b.data.toList : Nat) : Int)) ∧ w = w' := by
  have hs0 : ((startN : Nat) : Int) = 14695981039346656037 := by unfold startN; rfl
  go_enter Tryd.func40, Tryd.ntmps40
  go_wp2
  go_loop [3, 7] (fun c i => ∃ k x : Nat, k ≤ b.size ∧ i = .int .i64 k ∧ c = .int .u64 x ∧ x = sumN (b.data.toList.take k)) (fun _ i => b.size - (intOf i).toNat)
  case atStart => exact ⟨0, startN, by omega, rfl, by rw [hs0], by rw [List.take_zero, sumN_nil]⟩
  case round =>
    obtain ⟨k, x, hk, rfl, rfl, hx⟩ := hrel
    have hxl : x < W64 := by rw [hx]; exact sumN_lt _
    have HX := Lib.hid hx
    clear hx hs0
    by_cases hlt : k < b.size
    · obtain ⟨z, e1, e2⟩ := step_xor x b[k] hxl
      have hc : b[k].toNat < 256 := b[k].toNat_lt
      have HS := Lib.hid (sumN_snoc (b.data.toList.take k) b[k])
      rw [← HX.out] at HS
      generalize stepN x b[k] = y at *
      go_wp2
      go_round
      case rel => exact ⟨k + 1, _, by omega, by go_num, rfl, by rw [atake_snoc b k hlt, HS.out]⟩
      case measure => simp [intOf]; omega
    · go_wp2
      go_ret
      exact ⟨ret_int (by rw [HX.out, List.take_of_length_le (by rw [alen_size]; omega)]), rfl⟩
set_option maxRecDepth 100000 in
set_option maxHeartbeats 400000 in
theorem refsum_any (b : ByteArray) (w : World) (hb : b.size ≤ 9223372036854775807) :
    Calls Tryd.prog 35 #[.string b] w fun e w' => e = .returned (.int .u64 ((sumN b.data.toList : Nat) : Int)) ∧ w = w' := by
  have hs0 : ((startN : Nat) : Int) = 14695981039346656037 := by unfold startN; rfl
  go_enter Tryd.func35, Tryd.ntmps35
  go_wp2
  go_loop [3, 4] (fun c i => ∃ k x : Nat, k ≤ b.size ∧ i = .int .i64 k ∧ c = .int .u64 x ∧ x = sumN (b.data.toList.take k)) (fun _ i => b.size - (intOf i).toNat)
  case atStart => exact ⟨0, startN, by omega, rfl, by rw [hs0], by rw [List.take_zero, sumN_nil]⟩
  case round =>
    obtain ⟨k, x, hk, rfl, rfl, hx⟩ := hrel
    have hxl : x < W64 := by rw [hx]; exact sumN_lt _
    have HX := Lib.hid hx
    clear hx hs0
    by_cases hlt : k < b.size
    · obtain ⟨z, e1, e2⟩ := step_xor x b[k] hxl
      have hc : b[k].toNat < 256 := b[k].toNat_lt
      have HS := Lib.hid (sumN_snoc (b.data.toList.take k) b[k])
      rw [← HX.out] at HS
      generalize stepN x b[k] = y at *
      go_wp2
      go_round
      case rel => exact ⟨k + 1, _, by omega, by go_num, rfl, by rw [atake_snoc b k hlt, HS.out]⟩
      case measure => simp [intOf]; omega
    · go_wp2
      go_ret
      exact ⟨ret_int (by rw [HX.out, List.take_of_length_le (by rw [alen_size]; omega)]), rfl⟩
end Go.Proofs.YtbjginlhgedjdaaDoor
