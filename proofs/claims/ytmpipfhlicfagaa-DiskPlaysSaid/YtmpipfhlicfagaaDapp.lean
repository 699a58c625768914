/- A string's bytes are appended to a row of bytes that the program owns. -/
import Derived.Test.YtmpipfhlicfagaaDdrop
import Derived.Deep.Upon
namespace Go.Proofs.Ytmpipfhlicfagaa
open Go.RowKit Go.Maps

theorem infoU8 : (Try.prog.info? 5).map (fun i => (i.zero, i.size, i.bytes)) = some (some (.int .u8 0), 1, 1) := by kernel_rfl

theorem bytes_one (l : List UInt8) : ∀ u ∈ bytesOf l, u.oneCell' = true := fun u hu => by
  obtain ⟨_, _, rfl⟩ := List.mem_map.1 hu
  rfl
theorem bytes_app (l b : List UInt8) : bytesOf (l ++ b) = bytesOf l ++ bytesOf b := by simp [bytesOf]

theorem run_append_str {B : Nat} {v : Value} {l : List UInt8} {w : World} (h : w.ownsRow B 5 1 v l.length (bytesOf l)) (b : List UInt8) (hb : l.length + b.length ≤ 1099511627776) (hB : B ≤ w.heap.size) (ty : TypeId) :
    ∃ v' w', (Builtin.append_ #[62, 9] ty #[v, .string (bs b)]).run Try.prog w = .ok v' w' ∧ w'.ownsRow B 5 1 v' (l ++ b).length (bytesOf (l ++ b)) ∧ w.grownBy w' v.ownBlock ∧
      (v'.ownBlock = v.ownBlock ∨ v'.ownBlock = some w.heap.size) := by
  obtain ⟨i0, hi, hz0, hz1, hz2⟩ := info_parts infoU8
  have hbl : (byteCells (bs b)) = bytesOf b := rfl
  have hsrc : Src Try.prog i0.size 9 (.string (bs b)) b.length (bytesOf b) w := by
    have := Src.ofString (P := Try.prog) w Try.underlying9 (bs b)
    rw [bs_size, hbl] at this
    rw [hz1]; exact this
  have hlen : (l ++ b).length = l.length + b.length := List.length_append
  have hz : ∀ k, (Builtin.zeroCells (Value.int .u8 0).cells k).size = k := fun k => by rw [size_zeroCells]; simp [Value.cells]
  have grow : ∀ (base : Option Addr) (cap : Nat), cap < l.length + b.length → (Builtin.firstCells i0.size l.length (.slice base l.length cap)).run Try.prog w.drew = .ok (bytesOf l).toArray w.drew →
      v = .slice base l.length cap → l.length ≤ cap → ∃ v' w', (Builtin.append_ #[62, 9] ty #[v, .string (bs b)]).run Try.prog w = .ok v' w' ∧ w'.ownsRow B 5 1 v' (l ++ b).length (bytesOf (l ++ b)) ∧ w.grownBy w' v.ownBlock ∧
      (v'.ownBlock = v.ownBlock ∨ v'.ownBlock = some w.heap.size) := by
    intro base cap hcap hold hv hlc
    have hr := run_append_grow_src (P := Try.prog) w 62 9 ty 5 i0 _ Try.underlying62 hi hz0 base l.length cap (bytesOf l) hold (.string (bs b)) b.length (bytesOf b) hsrc hcap (by omega)
      (growslice_fits (by omega) (by rw [hz2]; omega))
    have hge := grownCap_ge w (l.length + b.length) cap 5
    refine ⟨_, _, by rw [hv]; exact hr, ?_, (grown_drewN 1 w _).trans (World.grownBy_alloc _ _ _), Or.inr rfl⟩
    rw [hlen]
    refine owns_of_cells hB (heap_alloc_new _ _) ?_ hge (grownCap_le_maxLen w _ _ _ (by unfold maxLen; omega)) (by rw [bytesOf_len, hlen]) (fun j hj => ?_)
    · simp only [Array.size_append, List.size_toArray, List.length_append, bytesOf_len, hz]
      omega
    · have : j < ((bytesOf l ++ bytesOf b).toArray).size := by simp [bytesOf_len]; omega
      rw [Array.getElem?_append_left this, bytes_app]
      simp
  rcases owns_cases h with ⟨rfl, h0, _⟩ | ⟨g, cap, cur, rfl, hBg, hgl, hg, hcap, hcm, hs, hl, hcur, hcell, hsome, hfz⟩
  · obtain rfl : l = [] := List.eq_nil_of_length_eq_zero h0
    by_cases hb0 : b = []
    · subst hb0
      have hr := run_append_nothing w 62 9 ty 5 i0 Try.underlying62 hi none 0 0 (Nat.le_refl _) (.string (bs [])) hsrc
      exact ⟨_, _, hr, World.ownsRow_nil _ _ _ _, ⟨rfl, rfl, rfl, Nat.le_refl _, fun _ _ _ => rfl⟩, Or.inl rfl⟩
    · have hbp : 0 < b.length := List.length_pos_iff.2 hb0
      exact grow none 0 (by simpa using hbp) (by rw [hz1]; exact run_firstCells_none w.drew 1 0 0 0) rfl (Nat.le_refl _)
  · by_cases hroom : l.length + b.length ≤ cap
    · have hr := run_append_room_src (P := Try.prog) w 62 9 ty 5 i0 Try.underlying62 hi g 0 l.length cap (.string (bs b)) b.length (bytesOf b) hsrc hroom
        (fun j hj => by rw [hz1, Nat.zero_add, Nat.mul_one]; rw [bytesOf_len] at hj; exact hsome _ (by omega)) (fun j _ => by rw [hz1, Nat.zero_add]; exact hfz _)
      rw [hz1, Nat.zero_add, Nat.mul_one] at hr
      obtain ⟨cur1, k1, k2, k3⟩ := block_setCells g 5 (bytesOf b) l.length w cur hg (by rw [bytesOf_len]; omega)
      refine ⟨_, _, hr, ?_, grown_setCells g _ _ _, Or.inl rfl⟩
      rw [hlen]
      refine owns_of_cells hBg k1 (by omega) hroom hcm (by rw [bytesOf_len, hlen]) (fun j hj => ?_)
      rw [k3 j, bytesOf_len, bytes_app]
      by_cases hj2 : j < l.length
      · rw [if_neg (by omega), List.getElem?_append_left (by rw [bytesOf_len]; omega), hcur j hj2]
      · rw [if_pos (by omega), List.getElem?_append_right (by rw [bytesOf_len]; omega), bytesOf_len]
    · refine grow _ cap (by omega) ?_ rfl hcap
      rw [hz1]
      refine run_firstCells_some w.drew 1 l.length ⟨g, 0, none⟩ l.length cap (bytesOf l) (by rw [bytesOf_len, Nat.mul_one]) (fun j u hu => ?_)
      have hj : j < l.length := by rw [← bytesOf_len l]; exact (List.getElem?_eq_some_iff.1 hu).1
      rw [Addr.add_lit, Nat.zero_add]
      show w.cell? _ = _
      rw [hcell j hj, hu]

/-- .. at the operation. -/
theorem wpList_append_run {P : Program} (w : World) {ops : Array Oper} {rest : List Oper} {o : Oper} {a : Act} {Q : Exit → Act → World → Prop}
    (hg : o.guard = none) (s x : Operand) (t tx : TypeId) (hop : o.op = .call { callee := .builtin .append, args := #[s, x], argTypes := #[t, tx] }) (sv xv : Value) (hs : a.eval s = sv) (hx : a.eval x = xv) (v' : Value) (w' : World)
    (hr : ∀ ty, (Builtin.append_ #[t, tx] ty #[sv, xv]).run P w = .ok v' w') (hK : wpList P ops Q rest (a.put o.dst v') w') : wpList P ops Q (o :: rest) a w := by
  refine wpList_plain hg fun K' hK' => ?_
  unfold Oper.wp execOp
  simp only [hop, resolve, invoke, builtin, Sem.run_bind, Sem.run_pure, Result.andThen_ok, List.map_toArray, List.map_cons, List.map_nil, hs, hx, hr]
  exact hK' _ _ hK
end Go.Proofs.Ytmpipfhlicfagaa
