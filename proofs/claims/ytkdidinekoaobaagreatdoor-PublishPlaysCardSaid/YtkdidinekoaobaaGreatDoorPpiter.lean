/- slices.Backward of names, and the walk over what it hands back. -/
import Derived.Test.YtkdidinekoaobaaGreatDoorPb
import Derived.RangeFuncNested
import Derived.RangeFuncBound
import Derived.RangeFuncCalls
import Derived.RangeFuncLeaves
import Derived.Shelf.Abstract
import Derived.Shelf.RegionOpen
import Derived.OwnWalkIn
import Derived.TacticsInMore
import Derived.LoopNIn
import Derived.LoopIn
import Derived.Maps.AppendAt
namespace Go.Proofs.YtkdidinekoaobaaGreatDoor.P
open Go.RowKit Go.Shelf M J
set_option linter.unusedVariables false
attribute [local go_sem] Oper.semAt_some

/-- What is handed to a round. -/
def encB (x : List UInt8 × Nat) : Array Value := #[.int .i64 (x.2 : Int), .string (bs x.1)]
/-- The names with their places, from the last one on. -/
def back (ns : List (List UInt8)) : List (List UInt8 × Nat) := ns.zipIdx.reverse
theorem back_len (ns : List (List UInt8)) : (back ns).length = ns.length := by simp [back]
theorem back_fst (ns : List (List UInt8)) : (back ns).map Prod.fst = ns.reverse := by
  unfold back
  rw [List.map_reverse, List.zipIdx_map_fst]
theorem back_at {ns : List (List UInt8)} {j : Nat} (h : j < ns.length) : (back ns)[ns.length - (j + 1)]? = some (ns[j], j) := by
  unfold back
  rw [List.getElem?_reverse (by simp; omega), List.length_zipIdx, List.getElem?_zipIdx, show ns.length - 1 - (ns.length - (j + 1)) = j by omega, List.getElem?_eq_getElem h]
  simp
/-- The iterator's two blocks stay. -/
def KpB (bx gb : Nat) (W W' : World) : Prop := ∀ k, (k = bx ∨ k = gb) → ∀ cs t z, W.heap[k]? = some (Obj.cells cs t z) → W'.heap[k]? = some (Obj.cells cs t z)
theorem KpB.trans {bx gb : Nat} {A B C : World} (h : KpB bx gb A B) (k : KpB bx gb B C) : KpB bx gb A C := fun i hi cs t z e => k i hi cs t z (h i hi cs t z e)
theorem KpB.put {bx gb : Nat} (W : World) (l : Nat) (o o' : Obj) (ho : W.heap[l]? = some o) (h1 : o.isCells = false) : KpB bx gb W (W.putObj l o') := fun k hk cs t z e => by
  have hne : k ≠ l := fun hkl => by
    subst hkl
    rw [ho] at e
    cases e
    cases h1
  rw [World.putObj_heap_other hne]; exact e
theorem KpB.turn {bx gb : Nat} {G : Nat → Prop} {W W' : World} (t : Turn G W W') (h1 : ¬ G bx) (h2 : ¬ G gb) : KpB bx gb W W' := fun k hk cs t' z e => by
  have hl := (Array.getElem?_eq_some_iff.1 e).1
  rw [t.block k hl (fun hg => by rcases hk with rfl | rfl; exact h1 hg; exact h2 hg)]; exact e

set_option maxRecDepth 100000 in
set_option maxHeartbeats 1000000 in
theorem bwalk_any {α : Type} (f : α → List UInt8 × Nat) (E : List α) (ns : List (List UInt8)) (hE : E.map f = back ns) {a : Option Addr} {nc : Nat} (bx gb : Nat) {cur : Array Value} {t : TypeId} (Kp : World → World → Prop) (hKp : ∀ W W', Kp W W' → KpB bx gb W W')
    (l : Nat) (J Jx : List α → World → Prop) (W : World)
    (hY : ∀ pre x W1, J pre W1 → pre.length < E.length → YieldAt Fence.wide (9 - 1) Tryz.prog l (encB (f x)) W1 fun e W' =>
      (e = .returned (.bool true) ∧ J (pre ++ [x]) W' ∧ Kp W1 W') ∨ (e = .returned (.bool false) ∧ Jx (pre ++ [x]) W'))
    (h0 : J [] W) (hlen : ns.length ≤ 2000) (hbx : W.heap[bx]? = some (.cells #[.slice a ns.length nc] 65 (0, 0))) (hgb : W.heap[gb]? = some (.cells cur t (0, 0)))
    (hc : ∀ j (h : j < ns.length), a = some ⟨gb, 0, none⟩ ∧ cur[j]? = some (.string (bs ns[j]))) :
    CallsIn Fence.wide 9 Tryz.prog 63 (#[.func (.yield l) #[] #[]] ++ #[.pointer (some ⟨bx, 0, none⟩)]) W fun e W' => (∃ v, e = .returned v) ∧ ((∃ xs, xs = E ∧ J xs W') ∨ (∃ pre, pre <+: E ∧ Jx pre W')) := by
  obtain ⟨L, hL⟩ : ∃ L, L = ns.length := ⟨_, rfl⟩
  have hel : E.length = L := by rw [hL, ← back_len ns, ← hE, List.length_map]
  have HAT : Hid (∀ j, j < L → ∃ x, E[L - (j + 1)]? = some x ∧ (f x).2 = j ∧ a = some ⟨gb, 0, none⟩ ∧ cur[j]? = some (.string (bs (f x).1))) := Lib.hid (fun j hj => by
    have h1 := back_at (ns := ns) (j := j) (by omega)
    rw [← hE, List.getElem?_map] at h1
    rw [show L - (j + 1) = ns.length - (j + 1) by omega]
    cases hx : E[ns.length - (j + 1)]? with
    | none => rw [hx] at h1; cases h1
    | some x =>
      rw [hx] at h1
      have h2 : f x = (ns[j], j) := by simpa using h1
      obtain ⟨h3, h4⟩ := hc j (by omega)
      exact ⟨x, rfl, by rw [h2], h3, by rw [h2]; exact h4⟩)
  rw [← hL] at hbx hlen
  have d0 : W.cell? ⟨bx, 0, none⟩ = some (.slice a L nc) := by rw [cell_of_row W bx 0 _ _ (0, 0) hbx]; rfl
  have HEL := Lib.hid hel
  rw [hel] at hY
  clear hc hL hE hel
  refine callsIn_of_wp Tryz.func63 rfl trivial ?_ rfl
  simp only [Tryz.ntmps63, List.size_toArray, List.length_cons, List.length_nil, Nat.reduceAdd, Nat.reduceSub, Array.replicate_succ, Array.replicate_zero, List.push_toArray, List.append_toArray, List.nil_append, List.cons_append]
  gi_wp2
  gi_loopw [3] (fun i wr => ∃ q : Nat, q ≤ L ∧ i = .int .i64 ((q : Int) - 1) ∧ wr.heap[bx]? = some (.cells #[.slice a L nc] 65 (0, 0)) ∧ wr.heap[gb]? = some (.cells cur t (0, 0)) ∧ J (E.take (L - q)) wr)
    (fun i _ => (intOf i + 1).toNat)
  case atStart => exact ⟨L, Nat.le_refl _, rfl, hbx, hgb, by simpa using h0⟩
  case round =>
    clear hbx hgb h0 d0
    obtain ⟨q, hq, rfl, hb, hg, hJr⟩ := hrel
    rcases q with _ | j
    · rw [show (((0 : Nat) : Int) - 1) = -1 from rfl]
      rw [Nat.sub_zero, List.take_of_length_le (by rw [HEL.out]; exact Nat.le_refl _)] at hJr
      gi_wp2
      go_end0
      exact ⟨⟨_, rfl⟩, .inl ⟨E, rfl, hJr⟩⟩
    · rw [show (((j + 1 : Nat) : Int) - 1) = (j : Int) by omega]
      have hjl : j < L := by omega
      obtain ⟨x, hx, hx2, ha, hcj⟩ := HAT.out j hjl
      have d0 : wr.cell? ⟨bx, 0, none⟩ = some (.slice a L nc) := by rw [cell_of_row wr bx 0 _ _ (0, 0) hb]; rfl
      have d1 : wr.cell? ⟨gb, j, none⟩ = some (.string (bs (f x).1)) := by rw [cell_of_row wr gb j _ _ (0, 0) hg]; exact hcj
      have htk : E.take (L - j) = E.take (L - (j + 1)) ++ [x] := by
        rw [show L - j = L - (j + 1) + 1 by omega, List.take_add_one, hx]; rfl
      have hpl : (E.take (L - (j + 1))).length < L := by rw [List.length_take]; omega
      have hpre : E.take (L - (j + 1)) ++ [x] <+: E := by rw [← htk]; exact List.take_prefix _ _
      have HTK := Lib.hid htk; have HPR := Lib.hid hpre
      obtain ⟨fn, tmps, assign, body, hy, hR⟩ := hY (E.take (L - (j + 1))) x wr hJr hpl
      simp only [encB, hx2] at hy
      rw [ha] at d0
      clear htk hpre hx hcj hJr hx2 HAT
      have HB := Lib.hid hb; have HG := Lib.hid hg
      clear hb hg ha
      gi_wp2
      refine hR.mono ?_
      rintro e W2 (⟨rfl, hJ2, hk2⟩ | ⟨rfl, hJx2⟩)
      · have hk := hKp _ _ hk2
        have hb2 := hk bx (Or.inl rfl) _ _ _ HB.out
        have hg2 := hk gb (Or.inr rfl) _ _ _ HG.out
        clear hy hR hk2 hk d0 d1
        gi_wp2
        go_roundw
        case rel => exact ⟨j, by omega, by go_num, hb2, hg2, by rw [HTK.out]; exact hJ2⟩
        case measure => simp [intOf]
      · clear hy hR d0 d1
        gi_wp2
        refine bodyPost_ret (results_none rfl _ _ _) rfl ?_
        exact ⟨⟨_, rfl⟩, .inr ⟨_, HPR.out, hJx2⟩⟩

theorem backward_any (a : Option Addr) (n nc : Nat) (w : World) : Calls Tryz.prog 30 #[.slice a n nc] w fun e w' => e = .returned (.func (.func 63) #[] #[.pointer (some ⟨w.heap.size, 0, none⟩)]) ∧ w' = w.alloc (.cells #[.slice a n nc] 65) := by
  have hmf : ∀ (fn : Fn) (first cap : Array Value) (w : World), (Instr.makeFunc fn first cap).run Tryz.prog w = .ok (.func fn first cap) w := fun _ _ _ _ => rfl
  go_enter Tryz.func30, Tryz.ntmps30
  go_wp2_with fail
  go_ret
  exact ⟨rfl, rfl⟩
end Go.Proofs.YtkdidinekoaobaaGreatDoor.P
