/- An append to a row that the program owns, of elements of any size: the row is the old one, or a new block. (As keydir's XKrow, for the layers behind it.) -/
import Derived.Test.YtfcfleeiffmjdaaBmem
import Derived.Deep.AppendSrc
import Derived.Deep.Upon
import Derived.Deep.RegionHeld3
import Derived.Maps.AppendAt
import Derived.OwnWalkIn
namespace Go.Proofs.Ytfcfleeiffmjdaa
open Go.RowKit
set_option linter.unusedVariables false

theorem run_append_row {P : Program} {B n m size bytes : Nat} {t e : TypeId} {i0 : TypeInfo} {z : Value} (ht : P.underlying t = some (.slice e)) (hi : P.info? e = some i0) (hz0 : i0.zero = some z) (hz1 : i0.size = size) (hz2 : i0.bytes = bytes) (hby : bytes ≤ 64) (hzs : z.cells.size = size)
    {v : Value} {xs : List Value} {w : World} (h : w.ownsRow B e size v n xs) (x : Value) (b : List Value) (hs : Src P size t x m b w) (hb : n + m ≤ 1099511627776) (hB : B ≤ w.heap.size) (ty : TypeId) :
    ∃ v' w', (Builtin.append_ #[t, t] ty #[v, x]).run P w = .ok v' w' ∧ w'.ownsRow B e size v' (n + m) (xs ++ b) ∧ w.grownBy w' v.ownBlock ∧ (v'.ownBlock = v.ownBlock ∨ v'.ownBlock = some w.heap.size) := by
  have hbl := hs.newsLen
  have hxl := h.1
  have hlen : (xs ++ b).length = (n + m) * size := by rw [List.length_append, hxl, hbl, Nat.add_mul]
  have hsrc : Src P i0.size t x m b w := by rw [hz1]; exact hs
  have hz : ∀ k, (Builtin.zeroCells z.cells k).size = k * size := fun k => by rw [size_zeroCells, hzs]
  have grow : ∀ (base : Option Addr) (cap : Nat), cap < n + m → (Builtin.firstCells i0.size n (.slice base n cap)).run P w.drew = .ok xs.toArray w.drew →
      v = .slice base n cap → ∃ v' w', (Builtin.append_ #[t, t] ty #[v, x]).run P w = .ok v' w' ∧ w'.ownsRow B e size v' (n + m) (xs ++ b) ∧ w.grownBy w' v.ownBlock ∧ (v'.ownBlock = v.ownBlock ∨ v'.ownBlock = some w.heap.size) := by
    intro base cap hcap hold hv
    have hr := run_append_grow_src (P := P) w t t ty e i0 _ ht hi hz0 base n cap xs hold x m b hsrc hcap (by omega) (growslice_fits (by omega) (by rw [hz2]; exact Nat.le_trans (Nat.mul_le_mul hb hby) (by omega)))
    have hge := grownCap_ge w (n + m) cap e
    have hgm := grownCap_le_maxLen w (n + m) cap e (by unfold maxLen; omega)
    refine ⟨_, _, by rw [hv]; exact hr, ?_, (grown_drewN 1 w _).trans (World.grownBy_alloc _ _ _), Or.inr rfl⟩
    refine ⟨hlen, Or.inr ⟨w.heap.size, _, _, rfl, hB, heap_alloc_new _ _, hge, hgm, ?_, ?_⟩⟩
    · have h1 : ∀ A : Array Value, A.size = (n + m) * size → (A ++ Builtin.zeroCells z.cells (grownCap w (n + m) cap e - (n + m))).size = grownCap w (n + m) cap e * size := fun A hA => by
        rw [Array.size_append, hz, hA, ← Nat.add_mul]
        congr 1; omega
      exact h1 _ (by simpa using hlen)
    · rw [← hlen]
      simp only [Array.toList_append]
      exact List.take_left
  rcases h.2 with ⟨rfl, rfl⟩ | ⟨g, cap, cur, rfl, hBg, hg, hcap, hcm, hsz, htake⟩
  · have hx0 : xs = [] := List.eq_nil_of_length_eq_zero (by rw [hxl]; simp)
    subst hx0
    rcases Nat.eq_zero_or_pos m with hm | hm
    · subst hm
      have hb0 : b = [] := List.eq_nil_of_length_eq_zero (by rw [hbl]; simp)
      subst hb0
      have hr := run_append_nothing w t t ty e i0 ht hi none 0 0 (Nat.le_refl _) x hsrc
      exact ⟨_, _, hr, World.ownsRow_nil _ _ _ _, ⟨rfl, rfl, rfl, Nat.le_refl _, fun _ _ _ => rfl⟩, Or.inl rfl⟩
    · exact grow none 0 (by omega) (by rw [hz1]; exact run_firstCells_none w.drew size 0 0 0) rfl
  · have hcell : ∀ j, j < n * size → w.cell? ⟨g, j, none⟩ = xs[j]? := fun j hj => h.cellAt j hj
    have hcs : n * size ≤ cap * size := Nat.mul_le_mul_right _ hcap
    by_cases hroom : n + m ≤ cap
    · have hms : n * size + m * size ≤ cap * size := by rw [← Nat.add_mul]; exact Nat.mul_le_mul_right _ hroom
      have hsome : ∀ j, j < cap * size → (w.cell? ⟨g, j, none⟩).isSome = true := fun j hj => by
        rw [cell_of_row w g j cur _ (0, 0) hg, Array.getElem?_eq_getElem (by omega)]; rfl
      have hr := run_append_room_src (P := P) w t t ty e i0 ht hi g 0 n cap x m b hsrc hroom
        (fun j hj => by rw [hz1, Nat.zero_add]; rw [hbl] at hj; exact hsome _ (by omega)) (fun j _ => by rw [Nat.zero_add]; simp [World.frozen?, hg])
      rw [hz1, Nat.zero_add] at hr
      obtain ⟨cur1, k1, k2, k3⟩ := block_setCells g e b (n * size) w cur hg (by rw [hbl]; omega)
      refine ⟨_, _, hr, ?_, grown_setCells g _ _ _, Or.inl rfl⟩
      refine ⟨hlen, Or.inr ⟨g, cap, cur1, rfl, hBg, k1, hroom, hcm, by omega, ?_⟩⟩
      apply List.ext_getElem?
      intro j
      rw [List.getElem?_take]
      by_cases hj : j < (n + m) * size
      · rw [if_pos hj, Array.getElem?_toList, k3 j]
        rw [Nat.add_mul] at hj
        by_cases hj2 : j < n * size
        · have := hcell j hj2
          rw [cell_of_row w g j cur _ (0, 0) hg] at this
          rw [if_neg (by omega), List.getElem?_append_left (by rw [hxl]; omega), this]
        · rw [if_pos (by rw [hbl]; omega), List.getElem?_append_right (by rw [hxl]; omega), hxl]
      · rw [if_neg hj, List.getElem?_eq_none (by rw [hlen]; omega)]
    · refine grow _ cap (by omega) ?_ rfl
      rw [hz1]
      refine run_firstCells_some w.drew size n ⟨g, 0, none⟩ n cap xs hxl (fun j u hu => ?_)
      have hj : j < n * size := by rw [← hxl]; exact (List.getElem?_eq_some_iff.1 hu).1
      rw [Addr.add_lit, Nat.zero_add]
      show w.cell? _ = _
      rw [hcell j hj, hu]

theorem slice_form {w : World} {B : Nat} {e : TypeId} {size : Nat} {v : Value} {n : Nat} {xs : List Value} (h : w.ownsRow B e size v n xs) : ∃ a c, v = .slice a n c := by
  rcases h with ⟨_, ⟨rfl, rfl⟩ | ⟨g, cap, cur, rfl, _, hg, _⟩⟩
  · exact ⟨none, 0, rfl⟩
  · exact ⟨_, cap, rfl⟩
/-- The cells of a row, in its block. -/
theorem row_at {w : World} {B : Nat} {e : TypeId} {size n : Nat} {a : Option Addr} {c : Nat} {xs : List Value} (h : w.ownsRow B e size (.slice a n c) n xs) (hn : 0 < n) : ∃ g, a = some ⟨g, 0, none⟩ ∧ B ≤ g ∧ g < w.heap.size ∧ ∀ j, j < n * size → w.cell? ⟨g, j, none⟩ = xs[j]? := by
  rcases h.2 with ⟨h0, h1⟩ | ⟨g, cap, cur, hv, hB, hg, _⟩
  · omega
  · cases hv
    exact ⟨g, rfl, hB, (Array.getElem?_eq_some_iff.1 hg).1, fun j hj => h.cellAt j hj⟩
theorem row_base {w : World} {B B' : Nat} {e : TypeId} {size n : Nat} {v : Value} {xs : List Value} (h : w.ownsRow B e size v n xs) (hB : B' ≤ B) : w.ownsRow B' e size v n xs := by
  obtain ⟨h1, h2⟩ := h
  refine ⟨h1, h2.imp id ?_⟩
  rintro ⟨g, cap, cur, hv, hb, r⟩
  exact ⟨g, cap, cur, hv, Nat.le_trans hB hb, r⟩
/-- A beginning of a row. -/
theorem row_take {w : World} {B : Nat} {e : TypeId} {size n : Nat} {a : Option Addr} {c : Nat} {xs : List Value} (h : w.ownsRow B e size (.slice a n c) n xs) {m : Nat} (hm : m ≤ n) : w.ownsRow B e size (.slice a m c) m (xs.take (m * size)) := by
  have hms : m * size ≤ n * size := Nat.mul_le_mul_right _ hm
  refine ⟨by rw [List.length_take, h.1]; omega, ?_⟩
  rcases h.2 with ⟨h0, h1⟩ | ⟨g, cap, cur, hv, hB, hg, hnc, hcm, hs, ht⟩
  · cases h0
    obtain rfl : m = 0 := by omega
    exact Or.inl ⟨rfl, rfl⟩
  · cases hv
    exact Or.inr ⟨g, c, cur, rfl, hB, hg, by omega, hcm, hs, by rw [← ht, List.take_take, Nat.min_eq_left hms]⟩
/-- A row, or another's, as a source of an append. -/
theorem src_row {P : Program} {w W : World} {B : Nat} {t e : TypeId} {size n : Nat} {v : Value} {xs : List Value} (ht : P.underlying t = some (.slice e)) (h : w.ownsRow B e size v n xs) (h1 : ∀ u ∈ xs, u.oneCell' = true) (hW : ∀ g, v.ownBlock = some g → W.heap[g]? = w.heap[g]?) : Src P size t v n xs W := by
  have h' := owns_kept h hW
  rcases h'.2 with ⟨rfl, rfl⟩ | ⟨g, cap, cur, rfl, _, hg, _⟩
  · have : xs = [] := List.eq_nil_of_length_eq_zero (by rw [h.1]; simp)
    subst this
    exact Src.ofNil W ht 0
  · refine Src.ofSlice W ht ⟨g, 0, none⟩ n cap xs h.1 (fun j u hu => ?_) h1
    have hj : j < n * size := by rw [← h.1]; exact (List.getElem?_eq_some_iff.1 hu).1
    rw [Addr.add_lit, Nat.zero_add, h'.cellAt j hj]; exact hu
/-- .. in a walk. -/
theorem wpList_append_row {P : Program} (w : World) {ops : Array Oper} {rest : List Oper} {o : Oper} {a : Act} {Q : Exit → Act → World → Prop}
    (hg : o.guard = none) (s x : Operand) (t : TypeId) (hop : o.op = Op.call { callee := Callee.builtin Builtin.append, args := #[s, x], argTypes := #[t, t] })
    (B : Nat) (e : TypeId) (i0 : TypeInfo) (z : Value) (size bytes : Nat) (ht : P.underlying t = some (.slice e)) (hi : P.info? e = some i0) (hz0 : i0.zero = some z) (hz1 : i0.size = size) (hz2 : i0.bytes = bytes) (hby : bytes ≤ 64) (hzs : z.cells.size = size)
    (v : Value) (n : Nat) (xs : List Value) (hs : a.eval s = v) (hown : w.ownsRow B e size v n xs) (xv : Value) (m : Nat) (b : List Value) (hx : a.eval x = xv) (hsrc : Src P size t xv m b w) (hb : n + m ≤ 1099511627776) (hB : B ≤ w.heap.size)
    (hK : ∀ a' c' w', w'.ownsRow B e size (.slice a' (n + m) c') (n + m) (xs ++ b) → w.grownBy w' v.ownBlock → ((Value.slice a' (n + m) c').ownBlock = v.ownBlock ∨ (Value.slice a' (n + m) c').ownBlock = some w.heap.size) → wpList P ops Q rest (a.put o.dst (.slice a' (n + m) c')) w') :
    wpList P ops Q (o :: rest) a w := by
  refine wpList_plain hg fun K hK' => ?_
  obtain ⟨v', w', hrun, r1, r2, r3⟩ := run_append_row ht hi hz0 hz1 hz2 hby hzs hown xv b hsrc hb hB o.type
  obtain ⟨a', c', rfl⟩ := slice_form r1
  unfold Oper.wp execOp
  simp only [hop, resolve, invoke, builtin, Sem.run_bind, Sem.run_pure, Result.andThen_ok, List.map_toArray, List.map_cons, List.map_nil, hs, hx, hrun]
  exact hK' _ _ (hK a' c' w' r1 r2 r3)
/-- .. as one step of a region that draws its order. -/
theorem step_append_row {P : Program} {ops : Array Oper} {o : Oper} {a : Act} {w : World} {K : Act → World → Prop} {Q : Exit → Act → World → Prop} {E : Prop} (hgd : o.guard = none) (s x : Operand) (t : TypeId)
    (ho : o.op = .call { callee := .builtin .append, args := #[s, x], argTypes := #[t, t] }) (B : Nat) (e : TypeId) (i0 : TypeInfo) (z : Value) (size bytes : Nat) (ht : P.underlying t = some (.slice e)) (hi : P.info? e = some i0) (hz0 : i0.zero = some z) (hz1 : i0.size = size) (hz2 : i0.bytes = bytes) (hby : bytes ≤ 64) (hzs : z.cells.size = size)
    (v : Value) (n : Nat) (xs : List Value) (hs : a.eval s = v) (hown : w.ownsRow B e size v n xs) (xv : Value) (m : Nat) (b : List Value) (hx : a.eval x = xv) (hsrc : Src P size t xv m b w) (hb : n + m ≤ 1099511627776) (hB : B ≤ w.heap.size)
    (h : ∀ a' c' w', w'.ownsRow B e size (.slice a' (n + m) c') (n + m) (xs ++ b) → Below B w w' → w.grownBy w' v.ownBlock → K (a.put o.dst (.slice a' (n + m) c')) w') :
    if Region.wanted o (yielded ops a.tmps) = true then Oper.wp P o a w K Q else E := by
  have hw : Region.wanted o (yielded ops a.tmps) = true := by simp [Region.wanted, hgd]
  rw [if_pos hw]
  obtain ⟨v', w', q1, q2, q3, q4⟩ := run_append_row ht hi hz0 hz1 hz2 hby hzs hown xv b hsrc hb hB o.type
  obtain ⟨a', c', rfl⟩ := slice_form q2
  unfold Oper.wp execOp
  simp only [ho, resolve, invoke, builtin, Sem.run_bind, Sem.run_pure, Result.andThen_ok, List.map_toArray, List.map_cons, List.map_nil, hs, hx, q1]
  exact h a' c' w' q2 ((Below.refl B w).grown q3 hB (fun k hk => (hown.lt k hk).1)) q3
/-- .. within a fence. -/
theorem wpListIn_append_row {F : Fence} {d : Nat} {P : Program} (w : World) {ops : Array Oper} {rest : List Oper} {o : Oper} {a : Act} {Q : Exit → Act → World → Prop}
    (hg : o.guard = none) (s x : Operand) (t : TypeId) (hop : o.op = Op.call { callee := Callee.builtin Builtin.append, args := #[s, x], argTypes := #[t, t] })
    (B : Nat) (e : TypeId) (i0 : TypeInfo) (z : Value) (size bytes : Nat) (ht : P.underlying t = some (.slice e)) (hi : P.info? e = some i0) (hz0 : i0.zero = some z) (hz1 : i0.size = size) (hz2 : i0.bytes = bytes) (hby : bytes ≤ 64) (hzs : z.cells.size = size)
    (v : Value) (n : Nat) (xs : List Value) (hs : a.eval s = v) (hown : w.ownsRow B e size v n xs) (ad : Addr) (m c : Nat) (b : List Value) (hx : a.eval x = .slice (some ad) m c) (hbl : b.length = m * size)
    (hc : ∀ j u, b[j]? = some u → w.cell? (ad.add j) = some u) (h1c : ∀ u ∈ b, u.oneCell' = true) (hb : n + m ≤ 1099511627776) (hB : B ≤ w.heap.size)
    (hK : ∀ v' w', w'.ownsRow B e size v' (n + m) (xs ++ b) → w.grownBy w' v.ownBlock → (v'.ownBlock = v.ownBlock ∨ v'.ownBlock = some w.heap.size) → wpListIn F d P ops Q rest (a.put o.dst v') w') :
    wpListIn F d P ops Q (o :: rest) a w := by
  refine wpListIn_plain hg fun K hK' => ?_
  obtain ⟨v', w', hrun, r1, r2, r3⟩ := run_append_row ht hi hz0 hz1 hz2 hby hzs hown (.slice (some ad) m c) b (Src.ofSlice w ht ad m c b hbl hc h1c) hb hB o.type
  unfold Oper.wpIn
  refine ⟨?_, ?_⟩
  · simp [Oper.about, hop, resolve, Target.leads, Sem.run_pure]
  · rw [Oper.semAt_plain F _ _ (by rw [hop]; intro c hc'; cases hc')]
    simp [execOp, hop, resolve, invoke, builtin, hs, hx, hrun, Result.andThen]
    exact hK' _ _ (hK v' w' r1 r2 r3)
end Go.Proofs.Ytfcfleeiffmjdaa
