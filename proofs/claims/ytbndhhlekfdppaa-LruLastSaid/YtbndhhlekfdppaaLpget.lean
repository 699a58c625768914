/- The program's Get and Blocks. -/
import Derived.Test.YtbndhhlekfdppaaLpuse
namespace Go.Proofs.Ytbndhhlekfdppaa.L
open Go.RowKit Go.Maps
set_option linter.unusedVariables false

theorem wo_place {l : List It} {p : Nat} {x : It} (ho : l.Pairwise (fun x y => x.1 ≠ y.1)) (hx : l[p]? = some x) : wo l x.1 = l.take p ++ l.drop (p + 1) := by
  have hp := (List.getElem?_eq_some_iff.1 hx).1
  have hsp : l = l.take p ++ x :: l.drop (p + 1) := by
    rw [← (List.getElem?_eq_some_iff.1 hx).2]
    simp
  have ho' := ho
  rw [hsp] at ho'
  obtain ⟨_, h2, h3⟩ := List.pairwise_append.1 ho'
  obtain ⟨h4, _⟩ := List.pairwise_cons.1 h2
  have e1 : wo (l.take p) x.1 = l.take p := wo_id (fun y hy => h3 y hy x (List.mem_cons_self ..))
  have e2 : wo (l.drop (p + 1)) x.1 = l.drop (p + 1) := wo_id (fun y hy e => h4 y hy e.symm)
  have e3 : wo (l.take p ++ x :: l.drop (p + 1)) x.1 = wo (l.take p) x.1 ++ wo (l.drop (p + 1)) x.1 := by
    unfold wo; rw [List.filter_append, List.filter_cons]; simp
  rw [← hsp, e1, e2] at e3
  exact e3
/-- The keys behind a use. -/
theorem keys_use {os : List Bk} {l : List It} {p : Nat} {b : Bk} (hk : os.take l.length = l.map Prod.fst) (hl : l.length ≤ os.length) (hp : p < l.length) :
    (b :: (os.take p ++ os.drop (p + 1))).take l.length = b :: (l.take p ++ l.drop (p + 1)).map Prod.fst := by
  obtain ⟨m, hm⟩ : ∃ m, l.length = m + 1 := ⟨l.length - 1, by omega⟩
  rw [List.map_append, List.map_take, List.map_drop, ← hk, hm, List.take_succ_cons, List.take_append, List.length_take, List.take_take, List.drop_take, List.take_take]
  have e1 : min m p = p := by omega
  have e2 : min p (m + 1) = p := by omega
  rw [e1, e2, show min p os.length = p by omega, show m + 1 - (p + 1) = m - p by omega]
theorem keys_at {os : List Bk} {l : List It} {p : Nat} {x : It} (hk : os.take l.length = l.map Prod.fst) (hx : l[p]? = some x) : os[p]? = some x.1 := by
  have hp := (List.getElem?_eq_some_iff.1 hx).1
  have h1 : (os.take l.length)[p]? = some x.1 := by rw [hk, List.getElem?_map, hx]; rfl
  rw [List.getElem?_take, if_pos hp] at h1
  exact h1
theorem keys_not {os : List Bk} {l : List It} {p j : Nat} {b : Bk} (hk : os.take l.length = l.map Prod.fst) (hp : p < l.length) (hno : ∀ y ∈ l.take p, y.1 ≠ b) (hj : j < p) : os[j]? ≠ some b := fun h => by
  have hjl : l[j]? = some l[j] := List.getElem?_eq_getElem (by omega)
  have h1 := keys_at hk hjl
  rw [h] at h1
  exact hno l[j] (List.mem_of_getElem? (i := j) (by rw [List.getElem?_take, if_pos hj, hjl])) (Option.some.inj h1).symm
/-- What is behind a call that turns the cache. -/
def PmPost (B : Nat) (w : World) (pb mb most : Nat) (l' : List It) (r : Value) (e : Ending) (w' : World) : Prop :=
  e = .returned r ∧ ∃ os', Pm B w' pb mb most os' l' ∧ os'.take l'.length = l'.map Prod.fst ∧ Turn (fun k => k = pb ∨ k = mb) w w'
section
variable {B pb mb most : Nat} {os : List Bk} {l : List It} {w : World} {b : Bk}
set_option maxHeartbeats 1000000 in
theorem pget_any (h : Pm B w pb mb most os l) (hk : os.take l.length = l.map Prod.fst) (ho : Ok most l) (hm : most ≤ 64) (hb : b.fit) :
    Calls Try.prog 8 #[.pointer (some ⟨pb, 0, none⟩), blkV b] w (PmPost B w pb mb most (getS l b) (.tuple #[.string (bs (textOf l b)), .bool (hasB l b)])) := by
  have hb0 : Below w.heap.size w (w.alloc (.cells #[.int .i64 b.seg, .int .i64 b.n] 32)) := (Below.refl _ _).alloc (Nat.le_refl _) _
  have y0 := heap_alloc_new w (.cells #[.int .i64 b.seg, .int .i64 b.n] 32)
  have hP := h.below hb0
  obtain ⟨bb, hbb⟩ : ∃ bb, bb = w.heap.size := ⟨_, rfl⟩
  have HB0 := Lib.hid hb0
  have HK := Lib.hid hk
  have HOK := Lib.hid (And.intro ho hm)
  clear h hb0 hk ho hm
  unfold blkV
  go_enter Try.func8, Try.ntmps8
  go_wp2
  generalize hW0 : World.alloc w _ = W0 at *
  rw [← hbb] at y0 ⊢
  have hcl := fun t => cell_of_row W0 bb t _ _ (0, 0) y0
  have f0 := hcl 0; have f1 := hcl 1
  simp only [List.getElem?_toArray, List.getElem?_cons_succ, List.getElem?_cons_zero] at f0 f1
  have c0 := hP.head
  have HBB := Lib.hid hbb
  have hlook := (show MapI W0.drew mb l from hP.map).find hb
  unfold blkV at hlook
  have HP := Lib.hid hP
  have hP' := hP
  clear hcl hW0 hbb hP
  have hA := (Below.refl W0.heap.size W0).alloc (Nat.le_refl _) (.cells #[.string ⟨#[]⟩] 52)
  have hPA := hP'.below hA
  have g0 : (W0.alloc (.cells #[.string ⟨#[]⟩] 52)).drew.cell? ⟨bb, 0, none⟩ = some (.int .i64 b.seg) := (hA.cell (p := ⟨bb, 0, none⟩) (World.block_lt_of_cell? _ _ f0)).trans f0
  have g1 : (W0.alloc (.cells #[.string ⟨#[]⟩] 52)).drew.cell? ⟨bb, 1, none⟩ = some (.int .i64 b.n) := (hA.cell (p := ⟨bb, 1, none⟩) (World.block_lt_of_cell? _ _ f1)).trans f1
  have c1 : (W0.alloc (.cells #[.string ⟨#[]⟩] 52)).drew.cell? ⟨pb, 0, none⟩ = some (.map (some mb)) := hPA.head
  have hlook1 := (show MapI (W0.alloc (.cells #[.string ⟨#[]⟩] 52)).drew mb l from hPA.map).find hb
  unfold blkV at hlook1
  have HA := Lib.hid hA
  clear hA hPA hP'
  generalize hhv : hasB l b = hv at *
  generalize htx : textOf l b = tx at *
  unfold entV at hlook hlook1
  have HTX := Lib.hid htx
  have HHV := Lib.hid hhv
  clear htx hhv
  go_region
  all_goals
    clear hlook hlook1 g0 g1 c1
    have hB1 : Below W0.heap.size W0 (W0.alloc (.cells #[.string (bs tx)] 52)).drew := ((Below.refl W0.heap.size W0).alloc (Nat.le_refl _) _).drew
    have hx := heap_alloc_new W0 (.cells #[.string (bs tx)] 52)
    have x0 : (W0.alloc (.cells #[.string (bs tx)] 52)).drew.cell? ⟨W0.heap.size, 0, none⟩ = some (.string (bs tx)) := by
      rw [cell_of_row _ _ _ _ _ (0, 0) (show (W0.alloc (.cells #[.string (bs tx)] 52)).drew.heap[W0.heap.size]? = _ from hx)]; rfl
    generalize hW1 : (W0.alloc (.cells #[.string (bs tx)] 52)).drew = W1 at *
    obtain ⟨sb, hsb⟩ : ∃ sb, sb = W0.heap.size := ⟨_, rfl⟩
    rw [← hsb] at x0 ⊢
    have hpS : sb ≠ pb := by have := HP.out.lt.1; omega
    have e0 := (hB1.cell (p := ⟨bb, 0, none⟩) (World.block_lt_of_cell? _ _ f0)).trans f0
    have e1 := (hB1.cell (p := ⟨bb, 1, none⟩) (World.block_lt_of_cell? _ _ f1)).trans f1
    have HP1 := Lib.hid (HP.out.below hB1)
    have HB1 := Lib.hid (HB0.out.trans (hB1.mono HB0.out.size))
    clear hW1 hx hB1 y0 f0 f1 c0 HA HP hsb
    have HPL := Lib.hid (place_of l b)
    cases hv with
    | false =>
      go_wp2
      go_ret2
      have hls : look l b = none := by
        have := HHV.out; unfold hasB at this
        cases g : look l b with
        | none => rfl
        | some x => rw [g] at this; cases this
      have hgs : getS l b = l := by unfold getS; rw [hls]
      rw [hgs]
      exact ⟨rfl, os, HP1.out, HK.out, Turn.of_below _ HB1.out (Nat.le_refl _)⟩
    | true =>
      obtain ⟨p, x, h1, h2, h3, h4⟩ : ∃ p x, l[p]? = some x ∧ x.1 = b ∧ look l b = some x ∧ ∀ y ∈ l.take p, y.1 ≠ b := by
        rcases HPL.out with h | ⟨h1, _⟩
        · exact h
        · have := HHV.out; unfold hasB at this; rw [h1] at this; cases this
      have hp := (List.getElem?_eq_some_iff.1 h1).1
      have hn : l.length ≤ 64 := Nat.le_trans HOK.out.1.few HOK.out.2
      have HU := Lib.hid (puse_any HP1.out hn hp ((keys_at HK.out h1).trans (by rw [h2])) (fun j hj => keys_not HK.out hp h4 hj))
      unfold blkV at HU
      have hgs : getS l b = x :: (l.take p ++ l.drop (p + 1)) := by unfold getS; rw [h3]; dsimp only; rw [← h2, wo_place HOK.out.1.one h1]
      have hgl := get_len HOK.out.1 b
      have HG := Lib.hid (And.intro hgs (And.intro hgl (And.intro hp (And.intro h1 h2))))
      have hsl : sb < W1.heap.size := World.block_lt_of_cell? _ _ x0
      clear hgs hgl h1 h2 h3 h4 hp hn HPL
      go_wp2_with fail
      refine HU.out.mono ?_
      rintro e w2 ⟨rfl, hP2, ht2⟩
      have x1 := (cell_turn ht2 hsl hpS 0).trans x0
      have H2 := Lib.hid (And.intro hP2 ht2)
      clear hP2 ht2 x0 e0 e1 HU
      go_wp2
      go_ret2
      obtain ⟨hgs, hgl, hp, h1, h2⟩ := HG.out
      refine ⟨rfl, _, ⟨H2.out.1.blk, H2.out.1.map.as (fun y => ?_) hgl, H2.out.1.len, H2.out.1.base⟩, ?_, ?_⟩
      · have hsp : l = l.take p ++ x :: l.drop (p + 1) := by
          rw [← (List.getElem?_eq_some_iff.1 h1).2]
          simp
        rw [hgs]
        conv => rhs; rw [hsp]
        simp only [List.mem_cons, List.mem_append]
        exact ⟨fun h => by rcases h with h | h | h <;> simp [h], fun h => by rcases h with h | h | h <;> simp [h]⟩
      · rw [hgl, keys_use HK.out (by rw [HP1.out.len]; have := HOK.out.1.few; have := HOK.out.2; omega) hp, hgs, List.map_cons, h2]
      · exact (Turn.of_below _ HB1.out (Nat.le_refl _)).trans (H2.out.2.mono (fun k _ hk => Or.inl hk))
end
end Go.Proofs.Ytbndhhlekfdppaa.L
