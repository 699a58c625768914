/- The document's remote: an object goes; an object is laid. -/
import Derived.Test.YtadfajeiihonfaaMobjs
import Derived.Deep.RegionHeld3
namespace Go.Proofs.Ytadfajeiihonfaa
open Go.RowKit
set_option linter.unusedVariables false
set_option maxRecDepth 100000

theorem owo_snoc (l : List Ob) (f : Ob) (n : List UInt8) : wo Ob.nm (l ++ [f]) n = if f.nm = n then wo Ob.nm l n else wo Ob.nm l n ++ [f] := by
  unfold wo
  rw [List.filter_append]
  by_cases h : f.nm = n <;> simp [h]

/-- An append of objects as one step of a region that draws its order. -/
theorem step_append_objs {ops : Array Oper} {o : Oper} {a : Act} {w : World} {K : Act → World → Prop} {Q : Exit → Act → World → Prop} {E : Prop} (hgd : o.guard = none) (s x : Operand)
    (ho : o.op = .call { callee := .builtin .append, args := #[s, x], argTypes := #[27, 27] }) (B : Nat) (v : Value) (l : List Ob) (hs : a.eval s = v) (hown : Objs w B v l) (xv : Value) (b : List Ob) (hx : a.eval x = xv)
    (hsrc : Src Try.prog 2 27 xv b.length (oflat b) w) (hb : l.length + b.length ≤ 1099511627776) (hB : B ≤ w.heap.size)
    (h : ∀ a' n' c' w', Objs w' B (.slice a' n' c') (l ++ b) → Below B w w' → w.grownBy w' v.ownBlock → K (a.put o.dst (.slice a' n' c')) w') :
    if Region.wanted o (yielded ops a.tmps) = true then Oper.wp Try.prog o a w K Q else E := by
  have hw : Region.wanted o (yielded ops a.tmps) = true := by simp [Region.wanted, hgd]
  rw [if_pos hw]
  obtain ⟨v', w', q1, q2, q3, q4⟩ := run_append_objs hown xv b hsrc hb hB o.type
  obtain ⟨a', c', rfl⟩ := objs_form q2
  unfold Oper.wp execOp
  simp only [ho, resolve, invoke, builtin, Sem.run_bind, Sem.run_pure, Result.andThen_ok, List.map_toArray, List.map_cons, List.map_nil, hs, hx, q1]
  exact h a' _ c' w' q2 ((Below.refl B w).grown q3 hB (fun k hk => (hown.lt k hk).1)) q3

theorem Objs.alloc {w : World} {B : Nat} {v : Value} {l : List Ob} (h : Objs w B v l) (o : Obj) : Objs (w.alloc o) B v l := World.ownsRow.alloc h o
theorem objs_base {w : World} {B B' : Nat} {v : Value} {l : List Ob} (h : Objs w B v l) (hB : B' ≤ B) : Objs w B' v l := by
  obtain ⟨h1, h2⟩ := h
  refine ⟨h1, h2.imp id ?_⟩
  rintro ⟨g, cap, cur, hv, hb, r⟩
  exact ⟨g, cap, cur, hv, Nat.le_trans hB hb, r⟩
theorem Objs.drew {w : World} {B : Nat} {v : Value} {l : List Ob} (h : Objs w B v l) : Objs w.drew B v l := h
theorem objs_empty {w : World} {B b : Nat} (hB : B ≤ b) (hb : w.heap[b]? = some (.cells #[] 56 (0, 0))) : Objs w B (.slice (some ⟨b, 0, none⟩) 0 0) [] :=
  ⟨rfl, Or.inr ⟨b, 0, #[], rfl, hB, hb, Nat.le_refl _, by unfold maxLen; omega, rfl, rfl⟩⟩
theorem heap2_new (w : World) (o1 o2 : Obj) : ((w.alloc o1).alloc o2).heap[w.heap.size + 1]? = some o2 := by
  have := heap_alloc_new (w.alloc o1) o2
  simpa using this
theorem heap2_old (w : World) (o1 o2 : Obj) : ((w.alloc o1).alloc o2).heap[w.heap.size]? = some o1 := by
  rw [Below.heap_alloc _ _ _ (by simp)]
  exact heap_alloc_new w o1

/-- What was there when the call had laid its file is as it was. -/
def Elder (w1 W : World) : Prop := Below w1.heap.size w1 W
theorem Elder.refl (w1 : World) : Elder w1 w1 := Below.refl _ _
theorem Elder.alloc {w1 W : World} (h : Elder w1 W) (o : Obj) : Elder w1 (W.alloc o) := Below.alloc h h.size o
theorem Elder.drew {w1 W : World} (h : Elder w1 W) : Elder w1 W.drew := Below.drew h
theorem Elder.drewN {w1 W : World} (h : Elder w1 W) (q : Nat) : Elder w1 (W.drewN q) := ⟨h.os, h.tape, h.output, h.size, h.block⟩
theorem Elder.below {w1 W W' : World} (h : Elder w1 W) (k : Below w1.heap.size W W') : Elder w1 W' := Below.trans h k

/-- How many files stand ahead. -/
theorem pos_step {l : List Ob} {n : List UInt8} {i : Nat} {f : Ob} (hi : l[i]? = some f) (hu : Up Ob.nm l) : (i < pos Ob.nm l n ↔ lt f.nm n = true ∧ i ≤ pos Ob.nm l n) := by
  constructor
  · intro h
    exact ⟨pos_before (k := Ob.nm) h hi, by omega⟩
  · rintro ⟨h1, h2⟩
    rcases Nat.lt_or_ge i (pos Ob.nm l n) with h | h
    · exact h
    · have := pos_behind (k := Ob.nm) hu h hi
      rw [h1] at this; cases this

set_option maxHeartbeats 1000000 in
theorem without_any {B qb : Nat} {lv sv : Value} {S : Rs} {w : World} (h : Rf B w qb lv sv S) (n : List UInt8) (hcs : S.obs.length < 1000000000) :
    Calls Try.prog 29 #[.pointer (some ⟨qb, 0, none⟩), .string (bs n)] w fun e w' => e = .returned (.tuple #[]) ∧ RfStep B qb lv sv w { S with obs := wo Ob.nm S.obs n } w' := by
  obtain ⟨c1, c2, c3, fz⟩ := h.cells
  have fz0 := fz 0
  clear fz
  have hok := ok_wo h.ok n
  obtain ⟨a, cap, hv⟩ := objs_form h.row
  obtain ⟨L, hL⟩ : ∃ L, L = S.obs.length := ⟨_, rfl⟩
  have hrow := h.row
  have hq := (h.lt (Or.inl rfl)).2
  have HH := Lib.hid h
  rw [hv] at hrow c1
  rw [← hL] at hrow c1 hcs
  have HL := Lib.hid hL; have HR := Lib.hid hrow
  clear hL hrow h
  subst hv
  go_enter Try.func29, Try.ntmps29
  go_wp2
  go_loopg [4, 5] L (fun g s it wr => ∃ (i : Nat) (u : Value), i + g = L ∧ it = .int .i64 i ∧ u = s ∧ Objs wr w.heap.size u (wo Ob.nm (S.obs.take i) n) ∧ Below w.heap.size w wr)
  case atStart => exact ⟨0, _, by omega, rfl, rfl, World.ownsRow_nil _ _ _ _, Below.refl _ _⟩
  case round =>
    obtain ⟨i, u, hi, rfl, rfl, hown, hbw⟩ := hrel
    rw [← hbw.cell (p := ⟨qb, 0, none⟩) hq] at c1
    by_cases hlt : i < L
    · obtain ⟨f, hf⟩ : ∃ f, S.obs[i]? = some f := ⟨S.obs[i]'(by have := HL.out; omega), List.getElem?_eq_getElem _⟩
      obtain ⟨g, hg, _, hgl, d0, d1⟩ := objs_at HR.out hf
      subst hg
      rw [← hbw.cell (p := ⟨g, _, none⟩) hgl] at d0 d1
      have htk : wo Ob.nm (S.obs.take (i + 1)) n = if f.nm = n then wo Ob.nm (S.obs.take i) n else wo Ob.nm (S.obs.take i) n ++ [f] := by rw [List.take_add_one, hf]; exact owo_snoc _ _ _
      have hml : (wo Ob.nm (S.obs.take i) n).length ≤ i := Nat.le_trans (List.length_filter_le _ _) (List.length_take_le _ _)
      have hbz := hbw.size
      have HBW := Lib.hid hbw
      clear hf
      by_cases hn : f.nm = n
      · have heq : ((bs f.nm).toList == (bs n).toList) = true := by rw [bs_toList, bs_toList, hn]; simp
        rw [if_pos hn] at htk
        have HT := Lib.hid htk; have HO := Lib.hid hown; clear htk hown hn
        go_wp2
        go_roundg (gk - 1)
        case measure => omega
        case rel => exact ⟨i + 1, _, by omega, by go_num, rfl, by rw [HT.out]; exact HO.out, hbw⟩
      · have heq : ((bs f.nm).toList == (bs n).toList) = false := by rw [bs_toList, bs_toList]; simpa using hn
        rw [if_neg hn] at htk
        have HT := Lib.hid htk; clear htk hn
        obtain ⟨v', w1, hrun, hown', hgrow, hloc⟩ : ∃ v' w1, (∀ ty, (Builtin.append_ #[27, 27] ty #[u, .slice (some ⟨wr.heap.size, 0, none⟩) 1 1]).run Try.prog (wr.alloc (.cells #[.string (bs f.nm), .string (bs f.bt)] 56)) = .ok v' w1) ∧
            Objs w1 w.heap.size v' (wo Ob.nm (S.obs.take i) n ++ [f]) ∧ (wr.alloc (.cells #[.string (bs f.nm), .string (bs f.bt)] 56)).grownBy w1 u.ownBlock ∧ True := by
          obtain ⟨v', w1, q1, q2, q3, q4⟩ := run_append_objs (hown.alloc (.cells #[.string (bs f.nm), .string (bs f.bt)] 56)) (.slice (some ⟨wr.heap.size, 0, none⟩) 1 1) [f] (src_ob f _ wr.heap.size (heap_alloc_new wr _)) (by simp; omega) (by simp; omega) 0
          exact ⟨v', w1, fun _ => q1, q2, q3, trivial⟩
        have HO := Lib.hid hown; have HRUN := Lib.hid hrun; have HO' := Lib.hid hown'; have HG := Lib.hid hgrow
        clear hown hrun hown' hgrow
        go_wp2_with (first
          | (at_builtin; refine wpList_append_run _ rfl _ _ _ _ rfl _ _ rfl rfl _ _ HRUN.out ?_)
          | fail)
        go_roundg (gk - 1)
        case measure => omega
        case rel =>
          refine ⟨i + 1, _, by omega, by go_num, rfl, by rw [HT.out]; exact HO'.out, Below.grown (HBW.out.alloc hbz _) HG.out (by simp; omega) (fun j hj => (HO.out.lt _ hj).1)⟩
    · obtain rfl : i = L := by omega
      have hall : S.obs.take i = S.obs := List.take_of_length_le (by rw [HL.out]; exact Nat.le_refl _)
      rw [hall] at hown
      clear hall
      obtain ⟨ua, uc, hu⟩ := objs_form hown
      obtain ⟨M, hM⟩ : ∃ M, M = (wo Ob.nm S.obs n).length := ⟨_, rfl⟩
      rw [← hM] at hu
      subst hu
      have hq2 : qb < wr.heap.size := Nat.lt_of_lt_of_le hq hbw.size
      have fr : wr.frozen? ⟨qb, 0, none⟩ = false := by rw [hbw.frozen (p := ⟨qb, 0, none⟩) hq]; exact fz0
      have h2 : Rf B wr qb (.slice a S.obs.length cap) sv S := HH.out.below hbw
      have ht := turn_head wr qb 0 (.slice ua M uc)
      have hne : ∀ g, (Value.slice ua M uc).ownBlock = some g → g ≠ qb := fun g hg e => by have := (hown.lt g hg).1; omega
      have hend : RfStep B qb (.slice a S.obs.length cap) sv w { S with obs := wo Ob.nm S.obs n } (wr.setCell ⟨qb, 0, none⟩ (.slice ua M uc)) :=
        ⟨_, _, h2.head (S' := { S with obs := wo Ob.nm S.obs n }) ht (h2.setAt 0 _) (owns_kept (objs_base hown HH.out.base.2.2) (fun g hg => Below.heap_setCell _ _ _ _ (hne g hg))) (fun e => hne qb e rfl) (h2.script.setOwn 0 _) hok,
          fun k hk => by
            rcases hk with hk | hk | hk
            · exact Or.inl (Or.inl hk)
            · exact Or.inr (hown.lt k hk).1
            · exact Or.inl (Or.inr (Or.inr hk)), (Turn.of_below _ hbw (Nat.le_refl _)).trans ht⟩
      have HE := Lib.hid hend
      clear hown hM hend ht h2 hne
      go_wp2
      go_end0
      exact ⟨rfl, HE.out⟩

end Go.Proofs.Ytadfajeiihonfaa
