/- The program's Batches. -/
import Derived.Test.YtfcfleeiffmjdaaGpchunk
namespace Go.Proofs.Ytfcfleeiffmjdaa.G
open Go.RowKit Go.Shelf
set_option linter.unusedVariables false
set_option linter.unusedSimpArgs false
attribute [local go_sem] Oper.semAt_some

/-- An append as one step of a region that draws its order, within a fence. -/
theorem step_append_in {F : Fence} {n : Nat} {P : Program} {ops : Array Oper} {o : Oper} {a : Act} {w : World} {K : Act → World → Prop} {Q : Exit → Act → World → Prop} {E : Prop} (hgd : o.guard = none) (s x : Operand) (t : TypeId)
    (hop : o.op = .call { callee := .builtin .append, args := #[s, x], argTypes := #[t, t] }) {v xv v' : Value} {w' : World} (hs : a.eval s = v) (hx : a.eval x = xv)
    (hrun : (Builtin.append_ #[t, t] o.type #[v, xv]).run P w = .ok v' w') (h : K (a.put o.dst v') w') : if Region.wanted o (yielded ops a.tmps) = true then Oper.wpIn F n P o a w K Q else E := by
  have hw : Region.wanted o (yielded ops a.tmps) = true := by simp [Region.wanted, hgd]
  rw [if_pos hw]
  unfold Oper.wpIn
  refine ⟨?_, ?_⟩
  · simp [Oper.about, hop, resolve, Target.leads, Sem.run_pure]
  · rw [Oper.semAt_plain F _ _ (by rw [hop]; intro c hc'; cases hc')]
    simp [execOp, hop, resolve, invoke, builtin, hs, hx, hrun, Result.andThen]
    exact h
/-- A block of records stays where other kinds of blocks turn. -/
theorem RecsT.same {w w' : World} {a : Option Addr} {l : List Rc} (h : RecsT w a l) (hs : w.heap.size ≤ w'.heap.size) (hk : ∀ (b : Nat) (cs : Array Value) (z : Nat × Nat), w.heap[b]? = some (Obj.cells cs 35 z) → w'.heap[b]? = w.heap[b]?) : RecsT w' a l := by
  refine ⟨fun h0 => ?_, fun ad e => ?_⟩
  · obtain ⟨b, off, e, hlt, hc⟩ := h.1 h0
    obtain ⟨cs, z, hh⟩ := h.2 _ e
    have hk' : ∀ o, w'.cell? ⟨b, o, none⟩ = w.cell? ⟨b, o, none⟩ := fun o => World.cell?_of_block (a := ⟨b, o, none⟩) (hk b cs z hh)
    refine ⟨b, off, e, Nat.lt_of_lt_of_le hlt hs, fun i hi => ?_⟩
    obtain ⟨c0, c1, c2, c3⟩ := hc i hi
    exact ⟨(hk' _).trans c0, (hk' _).trans c1, (hk' _).trans c2, (hk' _).trans c3⟩
  · obtain ⟨cs, z, hh⟩ := h.2 ad e
    exact ⟨cs, z, by rw [hk _ cs z hh]; exact hh⟩
theorem Rows2.same {w w' : World} {vs : List Value} {ll : List (List Rc)} (h : Rows2 w vs ll) (hs : w.heap.size ≤ w'.heap.size) (hk : ∀ (b : Nat) (cs : Array Value) (z : Nat × Nat), w.heap[b]? = some (Obj.cells cs 35 z) → w'.heap[b]? = w.heap[b]?) : Rows2 w' vs ll :=
  ⟨h.1, fun i hi => by obtain ⟨a, cap, h1, h2⟩ := h.2 i hi; exact ⟨a, cap, h1, RecsT.same h2 hs hk⟩⟩
/-- Between two rounds: what has been laid. -/
def BatI (w : World) (ls : List (List Rc)) (W : World) : Prop :=
  ∃ v vs, W.heap[w.heap.size]? = some (.cells #[v] 22 (0, 0)) ∧ W.ownsRow (w.heap.size + 3) 25 1 v ls.length vs ∧ Rows2 W vs ls ∧ Below w.heap.size w W
theorem BatI.grown {w W W' : World} {ls : List (List Rc)} {row : Option Nat} (h : BatI w ls W) (hg : W.grownBy W' row) (hr : ∀ r, row = some r → w.heap.size ≤ r ∧ ∃ o : Obj, W.heap[r]? = some o ∧ o.isCells = false) : BatI w ls W' := by
  obtain ⟨v, vs, h1, h2, h3, h4⟩ := h
  have hcell : ∀ (k : Nat) (cs : Array Value) (t : TypeId) (z : Nat × Nat), W.heap[k]? = some (Obj.cells cs t z) → W'.heap[k]? = W.heap[k]? := fun k cs t z hk => hg.block k (Array.getElem?_eq_some_iff.1 hk).1 (fun e => by
    obtain ⟨_, o, ho, hc⟩ := hr k e.symm
    rw [hk] at ho
    injection ho with ho
    rw [← ho] at hc
    cases hc)
  refine ⟨v, vs, by rw [hcell _ _ _ _ h1]; exact h1, owns_kept h2 (fun g hgv => ?_), Rows2.same h3 hg.size (fun b cs z hb => hcell b cs _ z hb), Below.grown h4 hg h4.size (fun j hj => (hr j hj).1)⟩
  rcases h2.2 with ⟨rfl, _⟩ | ⟨g', cap, cur, rfl, _, hgg, _⟩
  · simp [Value.ownBlock] at hgv
  · obtain rfl : g' = g := by simpa [Value.ownBlock] using hgv
    exact hcell _ _ _ _ hgg

/-- A piece more. -/
theorem bat_step {w W : World} {ls : List (List Rc)} {c : List Rc} {va : Option Addr} {vc : Nat} {vs : List Value} (hbb : W.heap[w.heap.size]? = some (.cells #[.slice va ls.length vc] 22 (0, 0))) (hown : W.ownsRow (w.heap.size + 3) 25 1 (.slice va ls.length vc) ls.length vs) (hrows : Rows2 W vs ls) (hbw : Below w.heap.size w W) (hm : ls.length ≤ 1000000) (hz : w.heap.size + 3 ≤ W.heap.size) :
    ∀ W2 a2 c2, Below W.heap.size W W2 → Rw W2 W.heap.size (.slice a2 c.length c2) c → ∃ va' vc' W4, (Builtin.append_ #[22, 22] 22 #[.slice va ls.length vc, .slice (some ⟨W2.heap.size, 0, none⟩) 1 1]).run Try.prog (W2.alloc (.cells #[.slice a2 c.length c2] 25)) = .ok (.slice va' (ls.length + 1) vc') W4 ∧
      W4.cell? ⟨w.heap.size, 0, none⟩ = some (.slice va ls.length vc) ∧ W4.frozen? ⟨w.heap.size, 0, none⟩ = false ∧ W2.cell? ⟨w.heap.size, 0, none⟩ = some (.slice va ls.length vc) ∧ (W2.alloc (.cells #[.slice a2 c.length c2] 25)).cell? ⟨w.heap.size, 0, none⟩ = some (.slice va ls.length vc) ∧
      (W.heap.size ≤ (W4.setCell ⟨w.heap.size, 0, none⟩ (.slice va' (ls.length + 1) vc')).heap.size ∧ ∀ (k : Nat) (o : Obj), k ≠ w.heap.size → (k < w.heap.size + 3 ∨ o.isCells = false) → W.heap[k]? = some o → (W4.setCell ⟨w.heap.size, 0, none⟩ (.slice va' (ls.length + 1) vc')).heap[k]? = some o) ∧ BatI w (ls ++ [c]) (W4.setCell ⟨w.heap.size, 0, none⟩ (.slice va' (ls.length + 1) vc')) := by
  intro W2 a2 c2 hb2 hr2
  obtain ⟨i0, hi, hz0, hz1, hz2⟩ := info_parts infoSlice
  have hb3 : Below W.heap.size W (W2.alloc (.cells #[.slice a2 c.length c2] 25)) := hb2.alloc hb2.size _
  have hown3 := owns_later hown hb3
  obtain ⟨v', W4, hap, hown4, hgr, _⟩ := run_append_own (P := Try.prog) (W2.alloc (.cells #[.slice a2 c.length c2] 25)) (w.heap.size + 3) 22 22 25 i0 (.slice none 0 0) 1 24 Try.underlying22 hi hz0 hz1 hz2 rfl (by decide) (.slice va ls.length vc) ls.length vs hown3 ⟨W2.heap.size, 0, none⟩ 1 1 [.slice a2 c.length c2] rfl (cell_one_new _ _ _) (fun u hu => by simp at hu; subst hu; rfl) (by unfold maxLen; omega) (by omega) (by have := hb3.size; omega)
  obtain ⟨va', vc', rfl⟩ := slice_form hown4
  have hsz3 := hb3.size
  have hbl := (Array.getElem?_eq_some_iff.1 hbb).1
  have hlow : ∀ g, (Value.slice va ls.length vc).ownBlock = some g → w.heap.size + 3 ≤ g := fun g hg => (hown.lt g hg).1
  have hk4 : ∀ k, k < W.heap.size → some k ≠ (Value.slice va ls.length vc).ownBlock → W4.heap[k]? = W.heap[k]? := fun k hk hne => (hgr.block k (by omega) hne).trans (hb3.block k hk)
  have hbb4 : W4.heap[w.heap.size]? = some (.cells #[.slice va ls.length vc] 22 (0, 0)) := (hk4 _ hbl (fun e => by have := hlow _ e.symm; omega)).trans hbb
  have hbb5 := heap_setCell_same W4 w.heap.size 0 _ _ (.slice va' (ls.length + 1) vc') hbb4
  have hk5 : ∀ k, k ≠ w.heap.size → (W4.setCell ⟨w.heap.size, 0, none⟩ (.slice va' (ls.length + 1) vc')).heap[k]? = W4.heap[k]? := fun k hk => Below.heap_setCell _ _ _ _ hk
  refine ⟨va', vc', W4, hap, ?_, ?_, ?_, ?_, ⟨?_, fun k o hk hko ho => ?_⟩, ?_⟩
  · rw [cell_of_row W4 _ 0 _ _ (0, 0) hbb4]; rfl
  · simp [World.frozen?, hbb4]
  · rw [cell_of_row W2 _ 0 _ _ (0, 0) ((hb2.block _ hbl).trans hbb)]; rfl
  · rw [cell_of_row _ w.heap.size 0 _ _ (0, 0) ((hb3.block _ hbl).trans hbb)]; rfl
  · have := hgr.size; simp only [World.setCell, Array.size_modify]; omega
  · have hkl := (Array.getElem?_eq_some_iff.1 ho).1
    rw [hk5 k hk, hk4 k hkl (fun e => ?_)]
    · exact ho
    · rcases hko with h | h
      · have := hlow k e.symm; omega
      · rcases hown.2 with ⟨he, _⟩ | ⟨g', cap, cur, he, _, hgg, _⟩
        · rw [he] at e; simp [Value.ownBlock] at e
        · rw [he] at e
          obtain rfl : k = g' := by simpa [Value.ownBlock] using e
          rw [hgg] at ho
          injection ho with ho
          rw [← ho] at h
          cases h
  · have hr4 : Rows2 W4 vs ls := Rows2.grown (Rows2.later hrows hb3 (Nat.le_refl _)) hown3 hgr
    have hT5 : ∀ (b : Nat) (cs : Array Value) (z : Nat × Nat), W4.heap[b]? = some (Obj.cells cs 35 z) → (W4.setCell ⟨w.heap.size, 0, none⟩ (.slice va' (ls.length + 1) vc')).heap[b]? = W4.heap[b]? := fun b cs z hb => hk5 b (fun e => by
      rw [e, hbb4] at hb
      injection hb with hb
      injection hb with _ hb
      exact absurd hb (by decide))
    have hs5 : W4.heap.size ≤ (W4.setCell ⟨w.heap.size, 0, none⟩ (.slice va' (ls.length + 1) vc')).heap.size := by simp [World.setCell]
    obtain ⟨x, y, e, hrt⟩ := hr2.recs
    injection e with e1 e2 e3
    subst e1
    have hrt3 : RecsT (W2.alloc (.cells #[.slice a2 c.length c2] 25)) a2 c := hrt.later ((Below.refl _ _).alloc (Nat.le_refl _) _) (Nat.le_refl _)
    have hrt4 : RecsT W4 a2 c := hrt3.grown hown3 hgr
    refine ⟨.slice va' (ls.length + 1) vc', vs ++ [.slice a2 c.length c2], hbb5, ?_, Rows2.snoc (Rows2.same hr4 hs5 hT5) (RecsT.same hrt4 hs5 hT5), ?_⟩
    · rw [List.length_append, List.length_singleton]
      exact owns_kept hown4 (fun g hg => hk5 g (fun e => by have := (hown4.lt g hg).1; omega))
    · have h4 : Below w.heap.size w W4 := Below.grown (hbw.trans (hb3.mono hbw.size)) hgr (by have := hbw.size; omega) (fun j hj => by have := hlow j hj; omega)
      exact Below.setCell (p := ⟨w.heap.size, 0, none⟩) h4 (Nat.le_refl _) _
set_option maxRecDepth 100000 in
set_option maxHeartbeats 2000000 in
theorem pbatches_any {l : List Rc} {a : Option Addr} {cap : Nat} {w : World} (h : Recs w a l) (hl : l.length ≤ 1000000) (hcap : l.length ≤ cap) :
    Calls Try.prog 16 #[.slice a l.length cap] w fun e w' => ∃ a' cap', e = .returned (.slice a' (bat l).length cap') ∧ Bats w' a' (bat l) ∧ Below w.heap.size w w' := by
  obtain ⟨w1, hw1⟩ : ∃ w1, w1 = w.alloc (.cells #[.slice none 0 0] 22) := ⟨_, rfl⟩
  have hb1 : Below w.heap.size w w1 := by rw [hw1]; exact (Below.refl _ _).alloc (Nat.le_refl _) _
  have n0 : w1.heap[w.heap.size]? = some (.cells #[.slice none 0 0] 22 (0, 0)) := by rw [hw1]; exact heap_alloc_new w _
  have HW1 := Lib.hid hw1
  obtain ⟨n, hn⟩ : ∃ n, l.length = n := ⟨_, rfl⟩
  rw [hn] at hl hcap ⊢
  have HN := Lib.hid hn
  have HC := Lib.hid (pchunk_any a n cap w1)
  clear hw1 hn
  refine (callsIn_wide (n := 10)).1 ?_
  refine callsIn_of_wp_marks Try.func16 rfl trivial ?_ rfl
  simp only [Try.ntmps16, List.size_toArray, List.length_cons, List.length_nil, Nat.reduceAdd, Nat.reduceSub, Array.replicate_succ, Array.replicate_zero, List.push_toArray, List.append_toArray, List.nil_append, List.cons_append]
  gi_wp2
  rw [← HW1.out]
  refine ⟨trivial, (callsIn_wide (n := 9)).2 (HC.out.mono ?_)⟩
  rintro e w2 ⟨rfl, hw2⟩
  have b12 : Below w1.heap.size w1 w2 := by rw [hw2]; exact ((Below.refl _ _).alloc (Nat.le_refl _) _).alloc (by simp) _
  have nx : w2.heap[w1.heap.size]? = some (.cells #[.slice a n cap] 25 (0, 0)) := by rw [hw2]; exact heap_alloc2_old w1 _ _
  have nn : w2.heap[w1.heap.size + 1]? = some (.cells #[.int .i64 16] 3 (0, 0)) := by rw [hw2]; exact heap_alloc2_new w1 _ _
  have n2 := (b12.block _ (Array.getElem?_eq_some_iff.1 n0).1).trans n0
  have hI0 : BatI w [] w2 := ⟨_, [], n2, World.ownsRow_nil _ _ _ _, Rows2.nil _, hb1.trans (b12.mono hb1.size)⟩
  have HBX := Lib.hid nx; have HBN := Lib.hid nn; have HI0 := Lib.hid hI0
  have hz1 : w1.heap.size = w.heap.size + 1 := by rw [HW1.out]; simp
  have hz2 : w2.heap.size = w1.heap.size + 2 := by rw [hw2]; simp
  clear hw2 HC nx nn n2 n0 hI0 hb1 b12
  gi_wp2
  rw [hz1] at HBX HBN
  obtain ⟨b, off, hab⟩ : ∃ b off, 0 < l.length → a = some ⟨b, off, none⟩ := by
    by_cases h0 : 0 < l.length
    · obtain ⟨b, off, e, _⟩ := h h0; exact ⟨b, off, fun _ => e⟩
    · exact ⟨0, 0, fun h1 => absurd h1 h0⟩
  have hseq : SeqStopsK Fence.wide 9 Try.prog 33 #[.pointer (some ⟨w.heap.size + 1, 0, none⟩), .pointer (some ⟨w.heap.size + 1 + 1, 0, none⟩)] (encC l b off) (KpC (w.heap.size + 1) (w.heap.size + 1 + 1)) (fun xs => xs = List.finRange (bat l).length) (fun pre => pre <+: List.finRange (bat l).length) (List.finRange (bat l).length).length w2 := fun lp J Jx W hW hJ hJx hY h0 =>
    cwalk_any (cap := cap) hab (by rw [HN.out]; exact hl) (by rw [HN.out]; exact hcap) (w.heap.size + 1) (w.heap.size + 1 + 1) (KpC (w.heap.size + 1) (w.heap.size + 1 + 1)) (fun _ _ h => h) lp J Jx W hY (fun s A q hs => hJ s A _ none hs (grown_drewN q A none) (fun r e => nomatch e)) h0 (by rw [HN.out]; exact (hW.block _ (by omega)).trans HBX.out) ((hW.block _ (by omega)).trans HBN.out)
  have hall : (List.finRange (bat l).length).map (fun x => (bat l)[x.1]) = bat l := by
    apply List.ext_getElem
    · simp
    · intro i h1 h2; simp
  have HPC : Hid (∀ (x : Fin (bat l).length) W, Below w.heap.size w W → Recs W (some ⟨b, off + 64 * x.1, none⟩) (bat l)[x.1]) := Lib.hid (fun x W hW => by
    have hx := bat_in.1 x.2
    have h1 := h.later hW (Nat.le_refl _)
    rw [hab (by omega)] at h1
    have h2 := recs_piece h1 (16 * x.1) (min 16 (l.length - 16 * x.1)) (by omega)
    have e : (l.drop (16 * x.1)).take (min 16 (l.length - 16 * x.1)) = (l.drop (16 * x.1)).take 16 := by
      rw [List.take_eq_take_iff, List.length_drop]; omega
    rw [bat_at l x.1 x.2, ← e, show off + 64 * x.1 = off + 16 * x.1 * 4 by omega]
    exact h2)
  have HALL := Lib.hid hall; have HSEQ := Lib.hid hseq; have HR := Lib.hid h; have HAB := Lib.hid hab
  have hbl := bat_len l
  rw [HN.out] at hbl
  clear hseq hall h hab
  refine wpIn_rangeFunc_ownH rfl (by omega) (gf := 33) (lb := #[.pointer (some ⟨w.heap.size + 1, 0, none⟩), .pointer (some ⟨w.heap.size + 1 + 1, 0, none⟩)]) rfl trivial (enters_of Try.func33 (by kernel_rfl) rfl) HSEQ.out (fun h1 h2 => KpC.trans h1 h2)
    (fun W l o o' hl h1 h2 h3 => KpC.put W l o o' h1 h2) (Below.refl _ _) (fun _ => rfl)
    (fun pre W => BatI w (pre.map (fun x : Fin (bat l).length => (bat l)[x.1])) W) (fun c pre W => False)
    (fun s W W' row h hg hr => h.grown hg (fun r e => ⟨by have := (hr r e).1; omega, (hr r e).2⟩)) (fun c s W W' row h hg hr => h) HI0.out
    (fun x a' W => a' = { tmps := #[.slice a n cap, undef, .slice none 0 0, .pointer (some ⟨w.heap.size, 0, none⟩), .slice (some ⟨b, off + 64 * x.1, none⟩) (bat l)[x.1].length (bat l)[x.1].length, .slice a n cap, .func (.func 33) #[] #[.pointer (some ⟨w.heap.size + 1, 0, none⟩), .pointer (some ⟨w.heap.size + 1 + 1, 0, none⟩)], .slice (some ⟨b, off + 64 * x.1, none⟩) (bat l)[x.1].length (bat l)[x.1].length, undef, undef, undef, undef, undef, undef], defers := [] })
    (fun x a' _ X Y row hs hg hr => hs)
    ?assign ?body ?done ?stop
  case assign =>
    rintro lp pre x W K hi hK
    simp only [encC]
    gi_wp2
    exact hK _ _ (KeepsFrom.refl _ _) (fun k hk cs t z e => e) hi rfl
  case body =>
    rintro lp pre x a' W hlp ⟨r, hr⟩ hI rfl hlt
    obtain ⟨v, vs, hbb, hown, hrows, hbw⟩ := hI
    have hlp2 := (Array.getElem?_eq_some_iff.1 hr).1
    obtain ⟨va, vc, rfl⟩ := slice_form hown
    have hls : (pre.map (fun x : Fin (bat l).length => (bat l)[x.1])).length ≤ 1000000 := by
      rw [List.length_finRange] at hlt
      rw [List.length_map]
      omega
    have hmap : (pre ++ [x]).map (fun x : Fin (bat l).length => (bat l)[x.1]) = pre.map (fun x : Fin (bat l).length => (bat l)[x.1]) ++ [(bat l)[x.1]] := by simp
    have hst := bat_step (c := (bat l)[x.1]) hbb hown hrows hbw hls (by omega)
    have hpr := HPC.out x W.drew hbw.drew
    have hcl := (bat_size l x.1 x.2).2
    have HMAP := Lib.hid hmap
    clear hmap
    generalize pre.map (fun x : Fin (bat l).length => (bat l)[x.1]) = ls at *
    generalize (bat l)[x.1] = c at *
    generalize off + 64 * x.1 = o2 at *
    have HCL := Lib.hid (pclone_any (c := c.length) hpr (by omega))
    have d0 : W.cell? ⟨w.heap.size, 0, none⟩ = some (.slice va ls.length vc) := by rw [cell_of_row W _ 0 _ _ (0, 0) hbb]; rfl
    have HST := Lib.hid hst
    have hmix : Try.prog.follows .mixedOrders = true := by kernel_rfl
    clear hst hpr hown hrows hbw hbb hr
    gi_wp2
    refine wpIn_region_any hmix ?_
    change wpAnyIn _ _ _ _ _ _ _ _ _ (World.drew _)
    refine wpAnyIn_ready (rs := [0, 1]) (by kernel_rfl) (by simp) ?_
    refine AllReadyIn.cons rfl (fun K hK => ?_) (AllReadyIn.cons rfl (fun K hK => ?_) AllReadyIn.nil)
    · go_simp
      refine hK _ _ ?_
      clear hK K
      try simp only [Act.put, List.setIfInBounds_toArray, List.set_cons_zero, List.set_cons_succ]
      refine wpAnyIn_ready (rs := [1]) (by kernel_rfl) (by simp) ?_
      refine AllReadyIn.cons rfl (fun K hK => ?_) AllReadyIn.nil
      · go_simp
        refine hK _ _ ?_
        clear hK K
        try simp only [Act.put, List.setIfInBounds_toArray, List.set_cons_zero, List.set_cons_succ]
        refine wpAnyIn_ready (rs := [2]) (by kernel_rfl) (by simp) ?_
        refine AllReadyIn.cons rfl (fun K hK => ?_) AllReadyIn.nil
        · go_simp
          refine ⟨trivial, ?_⟩
          refine (CallsIn.inRound lp (callsIn_wide.2 HCL.out)).mono ?_
          rintro e W2 ⟨v2, rfl, hr2, hb2⟩
          obtain ⟨a2, c2, rfl, _, _⟩ := rw_form hr2
          obtain ⟨va', vc', W4, hap, x0, x1, x2, x3, hkp, hbi⟩ := HST.out W2 a2 c2 ((Below.refl _ W).drew.trans hb2) (hr2.base (Nat.le_refl _))
          have HAP := Lib.hid hap
          have HKP := Lib.hid hkp
          have HBI := Lib.hid hbi
          clear hkp hbi hr2 hb2 hap
          refine hK _ _ ?_
          clear hK K
          try simp only [Act.put, List.setIfInBounds_toArray, List.set_cons_zero, List.set_cons_succ]
          refine wpAnyIn_ready (rs := [3]) (by kernel_rfl) (by simp) ?_
          refine AllReadyIn.cons rfl (fun K hK => ?_) AllReadyIn.nil
          · go_simp
            refine hK _ _ ?_
            clear hK K
            try simp only [Act.put, List.setIfInBounds_toArray, List.set_cons_zero, List.set_cons_succ]
            refine wpAnyIn_ready (rs := [4]) (by kernel_rfl) (by simp) ?_
            refine AllReadyIn.cons rfl (fun K hK => ?_) AllReadyIn.nil
            · refine step_append_in rfl _ _ _ rfl rfl rfl HAP.out ?_
              refine hK _ _ ?_
              clear hK K
              try simp only [Act.put, List.setIfInBounds_toArray, List.set_cons_zero, List.set_cons_succ]
              refine wpAnyIn_ready (rs := [5]) (by kernel_rfl) (by simp) ?_
              refine AllReadyIn.cons rfl (fun K hK => ?_) AllReadyIn.nil
              · go_simp
                refine hK _ _ ?_
                clear hK K
                try simp only [Act.put, List.setIfInBounds_toArray, List.set_cons_zero, List.set_cons_succ]
                refine wpAnyIn_done (by kernel_rfl) ?_ _
                clear HAP x0 x1 x2 x3 d0
                exact ⟨⟨HKP.out.1, fun k o hk ho hc => HKP.out.2 k o (by omega) (Or.inr hc) ho⟩, fun k hk cs t z e => HKP.out.2 k _ (by omega) (Or.inl (by omega)) e, by show BatI w (List.map _ (pre ++ [x])) _; rw [HMAP.out]; exact HBI.out⟩
    · go_simp
      refine hK _ _ ?_
      clear hK K
      try simp only [Act.put, List.setIfInBounds_toArray, List.set_cons_zero, List.set_cons_succ]
      refine wpAnyIn_ready (rs := [0, 2]) (by kernel_rfl) (by simp) ?_
      refine AllReadyIn.cons rfl (fun K hK => ?_) (AllReadyIn.cons rfl (fun K hK => ?_) AllReadyIn.nil)
      · go_simp
        refine hK _ _ ?_
        clear hK K
        try simp only [Act.put, List.setIfInBounds_toArray, List.set_cons_zero, List.set_cons_succ]
        refine wpAnyIn_ready (rs := [2]) (by kernel_rfl) (by simp) ?_
        refine AllReadyIn.cons rfl (fun K hK => ?_) AllReadyIn.nil
        · go_simp
          refine ⟨trivial, ?_⟩
          refine (CallsIn.inRound lp (callsIn_wide.2 HCL.out)).mono ?_
          rintro e W2 ⟨v2, rfl, hr2, hb2⟩
          obtain ⟨a2, c2, rfl, _, _⟩ := rw_form hr2
          obtain ⟨va', vc', W4, hap, x0, x1, x2, x3, hkp, hbi⟩ := HST.out W2 a2 c2 ((Below.refl _ W).drew.trans hb2) (hr2.base (Nat.le_refl _))
          have HAP := Lib.hid hap
          have HKP := Lib.hid hkp
          have HBI := Lib.hid hbi
          clear hkp hbi hr2 hb2 hap
          refine hK _ _ ?_
          clear hK K
          try simp only [Act.put, List.setIfInBounds_toArray, List.set_cons_zero, List.set_cons_succ]
          refine wpAnyIn_ready (rs := [3]) (by kernel_rfl) (by simp) ?_
          refine AllReadyIn.cons rfl (fun K hK => ?_) AllReadyIn.nil
          · go_simp
            refine hK _ _ ?_
            clear hK K
            try simp only [Act.put, List.setIfInBounds_toArray, List.set_cons_zero, List.set_cons_succ]
            refine wpAnyIn_ready (rs := [4]) (by kernel_rfl) (by simp) ?_
            refine AllReadyIn.cons rfl (fun K hK => ?_) AllReadyIn.nil
            · refine step_append_in rfl _ _ _ rfl rfl rfl HAP.out ?_
              refine hK _ _ ?_
              clear hK K
              try simp only [Act.put, List.setIfInBounds_toArray, List.set_cons_zero, List.set_cons_succ]
              refine wpAnyIn_ready (rs := [5]) (by kernel_rfl) (by simp) ?_
              refine AllReadyIn.cons rfl (fun K hK => ?_) AllReadyIn.nil
              · go_simp
                refine hK _ _ ?_
                clear hK K
                try simp only [Act.put, List.setIfInBounds_toArray, List.set_cons_zero, List.set_cons_succ]
                refine wpAnyIn_done (by kernel_rfl) ?_ _
                clear HAP x0 x1 x2 x3 d0
                exact ⟨⟨HKP.out.1, fun k o hk ho hc => HKP.out.2 k o (by omega) (Or.inr hc) ho⟩, fun k hk cs t z e => HKP.out.2 k _ (by omega) (Or.inl (by omega)) e, by show BatI w (List.map _ (pre ++ [x])) _; rw [HMAP.out]; exact HBI.out⟩
      · go_simp
        refine ⟨trivial, ?_⟩
        refine (CallsIn.inRound lp (callsIn_wide.2 HCL.out)).mono ?_
        rintro e W2 ⟨v2, rfl, hr2, hb2⟩
        obtain ⟨a2, c2, rfl, _, _⟩ := rw_form hr2
        obtain ⟨va', vc', W4, hap, x0, x1, x2, x3, hkp, hbi⟩ := HST.out W2 a2 c2 ((Below.refl _ W).drew.trans hb2) (hr2.base (Nat.le_refl _))
        have HAP := Lib.hid hap
        have HKP := Lib.hid hkp
        have HBI := Lib.hid hbi
        clear hkp hbi hr2 hb2 hap
        refine hK _ _ ?_
        clear hK K
        try simp only [Act.put, List.setIfInBounds_toArray, List.set_cons_zero, List.set_cons_succ]
        refine wpAnyIn_ready (rs := [0, 3]) (by kernel_rfl) (by simp) ?_
        refine AllReadyIn.cons rfl (fun K hK => ?_) (AllReadyIn.cons rfl (fun K hK => ?_) AllReadyIn.nil)
        · go_simp
          refine hK _ _ ?_
          clear hK K
          try simp only [Act.put, List.setIfInBounds_toArray, List.set_cons_zero, List.set_cons_succ]
          refine wpAnyIn_ready (rs := [3]) (by kernel_rfl) (by simp) ?_
          refine AllReadyIn.cons rfl (fun K hK => ?_) AllReadyIn.nil
          · go_simp
            refine hK _ _ ?_
            clear hK K
            try simp only [Act.put, List.setIfInBounds_toArray, List.set_cons_zero, List.set_cons_succ]
            refine wpAnyIn_ready (rs := [4]) (by kernel_rfl) (by simp) ?_
            refine AllReadyIn.cons rfl (fun K hK => ?_) AllReadyIn.nil
            · refine step_append_in rfl _ _ _ rfl rfl rfl HAP.out ?_
              refine hK _ _ ?_
              clear hK K
              try simp only [Act.put, List.setIfInBounds_toArray, List.set_cons_zero, List.set_cons_succ]
              refine wpAnyIn_ready (rs := [5]) (by kernel_rfl) (by simp) ?_
              refine AllReadyIn.cons rfl (fun K hK => ?_) AllReadyIn.nil
              · go_simp
                refine hK _ _ ?_
                clear hK K
                try simp only [Act.put, List.setIfInBounds_toArray, List.set_cons_zero, List.set_cons_succ]
                refine wpAnyIn_done (by kernel_rfl) ?_ _
                clear HAP x0 x1 x2 x3 d0
                exact ⟨⟨HKP.out.1, fun k o hk ho hc => HKP.out.2 k o (by omega) (Or.inr hc) ho⟩, fun k hk cs t z e => HKP.out.2 k _ (by omega) (Or.inl (by omega)) e, by show BatI w (List.map _ (pre ++ [x])) _; rw [HMAP.out]; exact HBI.out⟩
        · go_simp
          refine hK _ _ ?_
          clear hK K
          try simp only [Act.put, List.setIfInBounds_toArray, List.set_cons_zero, List.set_cons_succ]
          refine wpAnyIn_ready (rs := [0]) (by kernel_rfl) (by simp) ?_
          refine AllReadyIn.cons rfl (fun K hK => ?_) AllReadyIn.nil
          · go_simp
            refine hK _ _ ?_
            clear hK K
            try simp only [Act.put, List.setIfInBounds_toArray, List.set_cons_zero, List.set_cons_succ]
            refine wpAnyIn_ready (rs := [4]) (by kernel_rfl) (by simp) ?_
            refine AllReadyIn.cons rfl (fun K hK => ?_) AllReadyIn.nil
            · refine step_append_in rfl _ _ _ rfl rfl rfl HAP.out ?_
              refine hK _ _ ?_
              clear hK K
              try simp only [Act.put, List.setIfInBounds_toArray, List.set_cons_zero, List.set_cons_succ]
              refine wpAnyIn_ready (rs := [5]) (by kernel_rfl) (by simp) ?_
              refine AllReadyIn.cons rfl (fun K hK => ?_) AllReadyIn.nil
              · go_simp
                refine hK _ _ ?_
                clear hK K
                try simp only [Act.put, List.setIfInBounds_toArray, List.set_cons_zero, List.set_cons_succ]
                refine wpAnyIn_done (by kernel_rfl) ?_ _
                clear HAP x0 x1 x2 x3 d0
                exact ⟨⟨HKP.out.1, fun k o hk ho hc => HKP.out.2 k o (by omega) (Or.inr hc) ho⟩, fun k hk cs t z e => HKP.out.2 k _ (by omega) (Or.inl (by omega)) e, by show BatI w (List.map _ (pre ++ [x])) _; rw [HMAP.out]; exact HBI.out⟩
  case done =>
    rintro D ys W hD rfl hI hK
    rw [HALL.out] at hI
    have hI2 := hI.grown (grownBy_putObj' W D (.deferred none)) (fun r e => by cases e; exact ⟨by omega, _, hK, rfl⟩)
    obtain ⟨v, vs, hbb, _, _, _⟩ := hI
    obtain ⟨v2, vs2, hbb2, hown, hrows, hbw⟩ := hI2
    have hne : w.heap.size ≠ D := by omega
    have hvv : v2 = v := by
      rw [World.putObj_heap_other hne, hbb] at hbb2
      injection hbb2 with hbb2
      injection hbb2 with hbb2 _
      simpa using hbb2.symm
    subst hvv
    obtain ⟨va, vc, e, hbt⟩ := owns_bats hown hrows
    subst e
    have d0 : W.cell? ⟨w.heap.size, 0, none⟩ = some (.slice va (bat l).length vc) := by rw [cell_of_row W _ 0 _ _ (0, 0) hbb]; rfl
    have HB := Lib.hid hbt; have HW := Lib.hid hbw; have HK := Lib.hid hK; have HBL := Lib.hid hbl
    clear hbb hbb2 hown hrows hbw hbt hK hne hbl
    gi_wp2
    refine ⟨by simp, .inl ⟨_, _, rfl, run_takeDeferred HK.out, ?_⟩⟩
    exact ⟨.slice va (bat l).length vc, by simp [results, Try.results16, go_sem], va, vc, rfl, HB.out, HW.out⟩
  case stop =>
    rintro D c pre W hD _ hX hK
    exact hX.elim
end Go.Proofs.Ytfcfleeiffmjdaa.G
