/- The effects of the calls: put, putNew, get, remove. -/
import Derived.Test.YtadfajeiihonfaaMscript
namespace Go.Proofs.Ytadfajeiihonfaa
open Go.RowKit Go.Maps
set_option linter.unusedVariables false

/-- What an effect answers. -/
def answ (b : List UInt8) (v : Value) (e : Int) : Value := .agg #[.string (bs b), v, .int .i64 e]
def noVal : Value := .slice none 0 0
def effPost (B pb mb : Nat) (sv : Value) (w : World) (S' : Rs) (b : List UInt8) (err : Int) (e : Ending) (w' : World) : Prop :=
  e = .returned (answ b (.slice none 0 0) err) ∧ RkStep B pb mb sv w S' w'

theorem ok_lays {S : Rs} (h : Ok S) {n b : List UInt8} (hn : n.length ≤ 9223372036854775807) (hf : S.obs.length < 1000000000) : Ok { S with obs := lays S.obs n b } :=
  { up := up_lays h.up n b, short := fun o ho => by
      rcases mem_ins.1 ho with rfl | ho
      · exact hn
      · exact h.short o (mem_wo.1 ho).1, few := by have := len_lays S.obs n b; dsimp only; omega, calls := h.calls, nums := h.nums }
theorem ok_wo {S : Rs} (h : Ok S) (n : List UInt8) : Ok { S with obs := wo Ob.nm S.obs n } :=
  { up := up_wo h.up n, short := fun o ho => h.short o (mem_wo.1 ho).1, few := Nat.le_trans (List.length_filter_le _ _) h.few, calls := h.calls, nums := h.nums }

/-- The map has turned, and new blocks are there. -/
theorem Rk.laid {B pb mb : Nat} {sv : Value} {S : Rs} {w w' : World} (h : Rk B w pb mb sv S) (t : Turn (fun k => k = mb) w w') {l : List Ob} (hm : MapHas w' mb l) (ho : Ok { S with obs := l }) : RkStep B pb mb sv w { S with obs := l } w' :=
  ⟨sv, h.mapped t hm ho, fun _ hk => Or.inl hk, t.mono (fun k _ e => Or.inr (Or.inl e))⟩

theorem RkStep.later {B pb mb : Nat} {sv : Value} {w w' w'' : World} {S' : Rs} (h : RkStep B pb mb sv w S' w') (t : Below w'.heap.size w' w'') : RkStep B pb mb sv w S' w'' := h.trans (fun _ h' => RkStep.same h' t)

/-- The three cells of a block. -/
theorem box3 {w : World} {g : Nat} {v0 v1 v2 : Value} {T : TypeId} (h : w.heap[g]? = some (.cells #[v0, v1, v2] T (0, 0))) :
    (w.cell? ⟨g, 0, none⟩ = some v0 ∧ w.cell? ⟨g, 1, none⟩ = some v1 ∧ w.cell? ⟨g, 2, none⟩ = some v2) ∧ (w.frozen? ⟨g, 0, none⟩ = false ∧ w.frozen? ⟨g, 1, none⟩ = false ∧ w.frozen? ⟨g, 2, none⟩ = false) := by
  have hc : ∀ j, w.cell? ⟨g, j, none⟩ = (#[v0, v1, v2])[j]? := fun j => cell_of_row w g j _ _ (0, 0) h
  exact ⟨⟨by rw [hc]; rfl, by rw [hc]; rfl, by rw [hc]; rfl⟩, by simp [World.frozen?, h], by simp [World.frozen?, h], by simp [World.frozen?, h]⟩

/-- .. written over. -/
theorem box3_set {w : World} {g : Nat} {v0 v1 v2 u0 u1 u2 : Value} {T : TypeId} (h : w.heap[g]? = some (.cells #[v0, v1, v2] T (0, 0))) :
    (((w.setCell ⟨g, 0, none⟩ u0).setCell ⟨g, 1, none⟩ u1).setCell ⟨g, 2, none⟩ u2).heap[g]? = some (.cells #[u0, u1, u2] T (0, 0)) :=
  heap_setCell_same _ g 2 _ _ u2 (heap_setCell_same _ g 1 _ _ u1 (heap_setCell_same w g 0 _ _ u0 h))

theorem put_any {B pb mb : Nat} {sv : Value} {S : Rs} {w : World} {n b : List UInt8} (h : Rk B w pb mb sv S) (hn : n.length ≤ maxLen) (hf : S.obs.length < 1000000000) :
    Calls Try.prog 22 #[.pointer (some ⟨pb, 0, none⟩), .string (bs n), .string (bs b)] w (effPost B pb mb sv w { S with obs := lays S.obs n b } [] 0) := by
  obtain ⟨c0, c1, c2, fz⟩ := h.cells
  clear fz
  have hlt := h.lt.1
  have ho := ok_lays (b := b) h.ok (by unfold maxLen at hn; omega) hf
  have h0 : Rk B (w.alloc (.cells #[.string ⟨#[]⟩, .slice none 0 0, .int .i64 0] 50)) pb mb sv S := h.below ((Below.refl _ w).alloc (Nat.le_refl _) _)
  obtain ⟨w', hr, m1, hg⟩ := h0.map.store h0.ok.up ⟨n, b⟩ hn (by unfold maxLen; omega)
  have hr' : (Instr.mapUpdate 46 (.map (some mb)) (.string (bs n)) (.agg #[.string (bs b)])).run Try.prog (w.alloc (.cells #[.string ⟨#[]⟩, .slice none 0 0, .int .i64 0] 50)) = .ok () w' := hr
  clear hr
  have hblk : w'.heap[w.heap.size]? = some (.cells #[.string ⟨#[]⟩, .slice none 0 0, .int .i64 0] 50 (0, 0)) := by
    rw [hg.block w.heap.size (by simp) (fun e => by injection e with e; have := h.lt.2; omega)]
    exact heap_alloc_new w _
  have HH := Lib.hid h
  have HG := Lib.hid hg; have HM := Lib.hid m1
  have hz : w.heap.size < w'.heap.size := (Array.getElem?_eq_some_iff.1 hblk).1
  obtain ⟨⟨b0, b1, b2⟩, z0, z1, z2⟩ := box3 hblk
  have HB := Lib.hid hblk
  clear hg m1 h h0 hblk
  go_enter Try.func22, Try.ntmps22
  go_wp2
  have t0 : Turn (fun k => k = mb) w w' := ((Turn.refl _ w).alloc _).grown HG.out (fun k hk => Or.inl (by cases hk; rfl))
  have t1 := ((t0.setNew (p := ⟨w.heap.size, 0, none⟩) (Nat.le_refl _) (.string ⟨#[]⟩)).setNew (p := ⟨w.heap.size, 1, none⟩) (Nat.le_refl _) (.slice none 0 0)).setNew (p := ⟨w.heap.size, 2, none⟩) (Nat.le_refl _) (.int .i64 0)
  have k1 := box3_set (u0 := .string ⟨#[]⟩) (u1 := .slice none 0 0) (u2 := .int .i64 0) HB.out
  have m1 : MapHas (((w'.setCell ⟨w.heap.size, 0, none⟩ (.string ⟨#[]⟩)).setCell ⟨w.heap.size, 1, none⟩ (.slice none 0 0)).setCell ⟨w.heap.size, 2, none⟩ (.int .i64 0)) mb (ins Ob.nm (wo Ob.nm S.obs n) ⟨n, b⟩) := HM.out.kept (by
    have hne : mb ≠ w.heap.size := by have := HH.out.lt.2; omega
    rw [Below.heap_setCell _ _ _ _ hne, Below.heap_setCell _ _ _ _ hne, Below.heap_setCell _ _ _ _ hne])
  generalize ((w'.setCell ⟨w.heap.size, 0, none⟩ (.string ⟨#[]⟩)).setCell ⟨w.heap.size, 1, none⟩ (.slice none 0 0)).setCell ⟨w.heap.size, 2, none⟩ (.int .i64 0) = W at t1 k1 m1 ⊢
  obtain ⟨⟨d0, d1, d2⟩, _⟩ := box3 k1
  refine bodyPost_ret (v := answ [] (.slice none 0 0) 0) (by simp [results, Try.results22, go_sem, answ, d0, d1, d2]; rfl) rfl ⟨rfl, ?_⟩
  exact HH.out.laid t1 m1 ho

/-- The variable of the answer, behind a call that leaves it as it is, and when the answer has been laid into it. -/
theorem RkStep.boxed {B pb mb : Nat} {sv : Value} {S S' : Rs} {w W w' : World} {g : Nat} {v0 v1 v2 : Value} {T : TypeId} (h : Rk B w pb mb sv S) (hW : Below w.heap.size w W) (hs : RkStep B pb mb sv W S' w') (hg : w.heap.size ≤ g)
    (hgb : W.heap[g]? = some (.cells #[v0, v1, v2] T (0, 0))) :
    w'.heap[g]? = some (.cells #[v0, v1, v2] T (0, 0)) ∧ ∀ u0 u1 u2, RkStep B pb mb sv w S' (((w'.setCell ⟨g, 0, none⟩ u0).setCell ⟨g, 1, none⟩ u1).setCell ⟨g, 2, none⟩ u2) := by
  obtain ⟨sv', k1, k2, k3⟩ := hs
  have hgl : g < W.heap.size := (Array.getElem?_eq_some_iff.1 hgb).1
  have hn : ∀ k, foot pb mb sv k → k ≠ g := fun k hk e => by have := (h.footLt hk).2; omega
  have hn' : ∀ k, foot pb mb sv' k → k ≠ g := fun k hk e => by
    rcases k2 k hk with hk | hk
    · exact hn k hk e
    · omega
  refine ⟨by rw [k3.block g hgl (fun hf => hn g hf rfl)]; exact hgb, fun u0 u1 u2 => ?_⟩
  have t : Turn (fun k => k = g) w' (((w'.setCell ⟨g, 0, none⟩ u0).setCell ⟨g, 1, none⟩ u1).setCell ⟨g, 2, none⟩ u2) := (((Turn.refl (fun k => k = g) w').setCell (p := ⟨g, 0, none⟩) rfl u0).setCell (p := ⟨g, 1, none⟩) rfl u1).setCell (p := ⟨g, 2, none⟩) rfl u2
  refine ⟨sv', k1.kept t (fun k _ hk => hn' k hk), fun k hk => ?_, ((Turn.of_below _ hW (Nat.le_refl _)).trans k3).then t (fun k e => Or.inr (e ▸ hg))⟩
  rcases k2 k hk with hk | hk
  · exact Or.inl hk
  · exact Or.inr (Nat.le_trans hW.size hk)

/-! ### get -/
def found (S : Rs) (n : List UInt8) (o : Ob) : Prop := o ∈ S.obs ∧ o.nm = n

theorem get_yes {B pb mb : Nat} {sv : Value} {S : Rs} {w : World} {n b : List UInt8} (x : List UInt8) (h : Rk B w pb mb sv S) (hn : n.length ≤ maxLen) (ho : (⟨n, b⟩ : Ob) ∈ S.obs) :
    Calls Try.prog 27 #[.pointer (some ⟨pb, 0, none⟩), .string (bs n), .string (bs x)] w (effPost B pb mb sv w S b 0) := by
  obtain ⟨c0, c1, c2, fz⟩ := h.cells
  clear fz
  have hlt := h.lt.1
  have h0 : Rk B (w.alloc (.cells #[.string ⟨#[]⟩, .slice none 0 0, .int .i64 0] 50)) pb mb sv S := h.below ((Below.refl _ w).alloc (Nat.le_refl _) _)
  have hl := (h0.map.look_yes ho hn).2
  have hl' : (Instr.lookup 46 (.map (some mb)) (.string (bs n)) true).run Try.prog (w.alloc (.cells #[.string ⟨#[]⟩, .slice none 0 0, .int .i64 0] 50)) = .ok (.tuple #[.agg #[.string (bs b)], .bool true]) (w.alloc (.cells #[.string ⟨#[]⟩, .slice none 0 0, .int .i64 0] 50)) := hl
  clear hl h0
  have HH := Lib.hid h
  clear h
  go_enter Try.func27, Try.ntmps27
  go_wp2_with (at_lookup; refine wpList_lookup_run _ rfl _ _ _ _ rfl _ _ rfl rfl (.tuple #[.agg #[.string (bs b)], .bool true]) hl' ?_)
  refine bodyPost_ret (v := answ b (.slice none 0 0) 0) (by simp [results, Try.results27, go_sem, answ]) rfl ⟨rfl, ?_⟩
  exact RkStep.same HH.out (((Below.refl _ w).alloc (Nat.le_refl _) _).alloc (by simp) _)

theorem get_no {B pb mb : Nat} {sv : Value} {S : Rs} {w : World} {n : List UInt8} (x : List UInt8) (h : Rk B w pb mb sv S) (hn : n.length ≤ maxLen) (ho : ∀ c ∈ S.obs, c.nm ≠ n) :
    Calls Try.prog 27 #[.pointer (some ⟨pb, 0, none⟩), .string (bs n), .string (bs x)] w (effPost B pb mb sv w S [] 5) := by
  obtain ⟨c0, c1, c2, fz⟩ := h.cells
  clear fz
  have hlt := h.lt.1
  have h0 : Rk B (w.alloc (.cells #[.string ⟨#[]⟩, .slice none 0 0, .int .i64 0] 50)) pb mb sv S := h.below ((Below.refl _ w).alloc (Nat.le_refl _) _)
  have hl := (h0.map.look_no ho hn).2
  have hl' : (Instr.lookup 46 (.map (some mb)) (.string (bs n)) true).run Try.prog (w.alloc (.cells #[.string ⟨#[]⟩, .slice none 0 0, .int .i64 0] 50)) = .ok (.tuple #[.agg #[.string (bs [])], .bool false]) (w.alloc (.cells #[.string ⟨#[]⟩, .slice none 0 0, .int .i64 0] 50)) := hl
  clear hl h0
  have HH := Lib.hid h
  clear h
  go_enter Try.func27, Try.ntmps27
  go_wp2_with (at_lookup; refine wpList_lookup_run _ rfl _ _ _ _ rfl _ _ rfl rfl (.tuple #[.agg #[.string (bs [])], .bool false]) hl' ?_)
  refine bodyPost_ret (v := answ [] (.slice none 0 0) 5) (by simp [results, Try.results27, go_sem, answ]; rfl) rfl ⟨rfl, ?_⟩
  exact RkStep.same HH.out (((Below.refl _ w).alloc (Nat.le_refl _) _).alloc (by simp) _)

theorem get_eff {B pb mb : Nat} {sv : Value} {S : Rs} {w : World} (n x : List UInt8) (h : Rk B w pb mb sv S) (hn : n.length ≤ maxLen) :
    Calls Try.prog 27 #[.pointer (some ⟨pb, 0, none⟩), .string (bs n), .string (bs x)] w (effPost B pb mb sv w S (getB S.obs n) (getE S.obs n)) := by
  unfold getB getE
  cases hl : look S.obs n with
  | none => exact get_no x h hn (look_none hl)
  | some o =>
    obtain ⟨h1, rfl⟩ := look_mem hl
    exact get_yes x h hn h1

/-! ### putNew -/
theorem putNew_yes {B pb mb : Nat} {sv : Value} {S : Rs} {w : World} {n b : List UInt8} (x : List UInt8) (h : Rk B w pb mb sv S) (hn : n.length ≤ maxLen) (ho : (⟨n, b⟩ : Ob) ∈ S.obs) :
    Calls Try.prog 25 #[.pointer (some ⟨pb, 0, none⟩), .string (bs n), .string (bs x)] w (effPost B pb mb sv w S [] 7) := by
  obtain ⟨c0, c1, c2, fz⟩ := h.cells
  clear fz
  have hlt := h.lt.1
  have h0 : Rk B (w.alloc (.cells #[.string ⟨#[]⟩, .slice none 0 0, .int .i64 0] 50)) pb mb sv S := h.below ((Below.refl _ w).alloc (Nat.le_refl _) _)
  have hl := (h0.map.look_yes ho hn).2
  have hl' : (Instr.lookup 46 (.map (some mb)) (.string (bs n)) true).run Try.prog (w.alloc (.cells #[.string ⟨#[]⟩, .slice none 0 0, .int .i64 0] 50)) = .ok (.tuple #[.agg #[.string (bs b)], .bool true]) (w.alloc (.cells #[.string ⟨#[]⟩, .slice none 0 0, .int .i64 0] 50)) := hl
  clear hl h0
  have HH := Lib.hid h
  clear h
  go_enter Try.func25, Try.ntmps25
  go_wp2_with (at_lookup; refine wpList_lookup_run _ rfl _ _ _ _ rfl _ _ rfl rfl (.tuple #[.agg #[.string (bs b)], .bool true]) hl' ?_)
  refine bodyPost_ret (v := answ [] (.slice none 0 0) 7) (by simp [results, Try.results25, go_sem, answ]; rfl) rfl ⟨rfl, ?_⟩
  exact RkStep.same HH.out (((Below.refl _ w).alloc (Nat.le_refl _) _).alloc (by simp) _)

theorem putNew_no {B pb mb : Nat} {sv : Value} {S : Rs} {w : World} {n : List UInt8} (x : List UInt8) (h : Rk B w pb mb sv S) (hn : n.length ≤ maxLen) (ho : ∀ c ∈ S.obs, c.nm ≠ n) (hf : S.obs.length < 1000000000) :
    Calls Try.prog 25 #[.pointer (some ⟨pb, 0, none⟩), .string (bs n), .string (bs x)] w (effPost B pb mb sv w { S with obs := lays S.obs n x } [] 0) := by
  obtain ⟨c0, c1, c2, fz⟩ := h.cells
  clear fz
  have hlt := h.lt.1
  have h0 : Rk B (w.alloc (.cells #[.string ⟨#[]⟩, .slice none 0 0, .int .i64 0] 50)) pb mb sv S := h.below ((Below.refl _ w).alloc (Nat.le_refl _) _)
  have hl := (h0.map.look_no ho hn).2
  have hl' : (Instr.lookup 46 (.map (some mb)) (.string (bs n)) true).run Try.prog (w.alloc (.cells #[.string ⟨#[]⟩, .slice none 0 0, .int .i64 0] 50)) = .ok (.tuple #[.agg #[.string (bs [])], .bool false]) (w.alloc (.cells #[.string ⟨#[]⟩, .slice none 0 0, .int .i64 0] 50)) := hl
  clear hl h0
  have HH := Lib.hid h
  clear h
  go_enter Try.func25, Try.ntmps25
  go_wp2_with (at_lookup; refine wpList_lookup_run _ rfl _ _ _ _ rfl _ _ rfl rfl (.tuple #[.agg #[.string (bs [])], .bool false]) hl' ?_)
  have hb : Below w.heap.size w ((w.alloc (.cells #[.string ⟨#[]⟩, .slice none 0 0, .int .i64 0] 50)).alloc (.cells #[.string (bs [])] 60)) := ((Below.refl _ w).alloc (Nat.le_refl _) _).alloc (by simp) _
  have hbox : ((w.alloc (.cells #[.string ⟨#[]⟩, .slice none 0 0, .int .i64 0] 50)).alloc (.cells #[.string (bs [])] 60)).heap[w.heap.size]? = some (.cells #[.string ⟨#[]⟩, .slice none 0 0, .int .i64 0] 50 (0, 0)) := by
    rw [Below.heap_alloc _ _ _ (by simp)]
    exact heap_alloc_new w _
  refine (put_any (b := x) (HH.out.below hb) hn hf).mono ?_
  rintro e w' ⟨rfl, hs⟩
  obtain ⟨k0, k1⟩ := RkStep.boxed HH.out hb hs (Nat.le_refl _) hbox
  have K0 := Lib.hid k0
  obtain ⟨⟨b0, b1, b2⟩, z0, z1, z2⟩ := box3 k0
  have K1 := Lib.hid (k1 (.string (bs [])) (.slice none 0 0) (.int .i64 0))
  clear k0 k1 hs hb hbox
  unfold answ
  go_wp2_with fail
  have k0 := box3_set (u0 := .string (bs [])) (u1 := .slice none 0 0) (u2 := .int .i64 0) K0.out
  have k1 := K1.out
  clear K1 K0
  generalize ((w'.setCell ⟨w.heap.size, 0, none⟩ (.string (bs []))).setCell ⟨w.heap.size, 1, none⟩ (.slice none 0 0)).setCell ⟨w.heap.size, 2, none⟩ (.int .i64 0) = W at k0 k1 ⊢
  obtain ⟨⟨d0, d1, d2⟩, _⟩ := box3 k0
  exact bodyPost_ret (v := answ [] (.slice none 0 0) 0) (by simp [results, Try.results25, go_sem, answ, d0, d1, d2]) rfl ⟨rfl, k1⟩

theorem putNew_eff {B pb mb : Nat} {sv : Value} {S : Rs} {w : World} (n x : List UInt8) (h : Rk B w pb mb sv S) (hn : n.length ≤ maxLen) (hf : S.obs.length < 1000000000) :
    Calls Try.prog 25 #[.pointer (some ⟨pb, 0, none⟩), .string (bs n), .string (bs x)] w (effPost B pb mb sv w { S with obs := newL S.obs n x } [] (newE S.obs n)) := by
  unfold newL newE
  cases hl : look S.obs n with
  | none => exact putNew_no x h hn (look_none hl) hf
  | some o =>
    obtain ⟨h1, rfl⟩ := look_mem hl
    exact putNew_yes x h hn h1

/-! ### remove -/
theorem remove_eff {B pb mb : Nat} {sv : Value} {S : Rs} {w : World} (n x : List UInt8) (h : Rk B w pb mb sv S) (hn : n.length ≤ maxLen) :
    Calls Try.prog 28 #[.pointer (some ⟨pb, 0, none⟩), .string (bs n), .string (bs x)] w (effPost B pb mb sv w { S with obs := wo Ob.nm S.obs n } [] 0) := by
  obtain ⟨c0, c1, c2, fz⟩ := h.cells
  clear fz
  have hlt := h.lt.1
  have ho := ok_wo h.ok n
  have h0 : Rk B (w.alloc (.cells #[.string ⟨#[]⟩, .slice none 0 0, .int .i64 0] 50)) pb mb sv S := h.below ((Below.refl _ w).alloc (Nat.le_refl _) _)
  obtain ⟨w', hr, m1, hg⟩ : ∃ w', (∀ ty, (Builtin.delete_ #[46, 9] ty #[.map (some mb), .string (bs n)]).run Try.prog (w.alloc (.cells #[.string ⟨#[]⟩, .slice none 0 0, .int .i64 0] 50)) = .ok (.tuple #[]) w') ∧ MapHas w' mb (wo Ob.nm S.obs n) ∧
      (w.alloc (.cells #[.string ⟨#[]⟩, .slice none 0 0, .int .i64 0] 50)).grownBy w' (some mb) := by
    obtain ⟨w', hr, m4, hg⟩ := h0.map.dropAny h0.ok.up n hn 0
    exact ⟨w', fun ty => hr, m4, hg⟩
  have hblk : w'.heap[w.heap.size]? = some (.cells #[.string ⟨#[]⟩, .slice none 0 0, .int .i64 0] 50 (0, 0)) := by
    rw [hg.block w.heap.size (by simp) (fun e => by injection e with e; have := h.lt.2; omega)]
    exact heap_alloc_new w _
  have HH := Lib.hid h
  have HG := Lib.hid hg; have HM := Lib.hid m1; have HR := Lib.hid hr
  obtain ⟨⟨b0, b1, b2⟩, z0, z1, z2⟩ := box3 hblk
  have HB := Lib.hid hblk
  clear hg m1 h h0 hblk hr
  go_enter Try.func28, Try.ntmps28
  go_wp2_with (at_delete; refine wpList_delete_run _ rfl _ _ _ _ rfl _ _ rfl rfl w' HR.out ?_)
  have t0 : Turn (fun k => k = mb) w w' := ((Turn.refl _ w).alloc _).grown HG.out (fun k hk => Or.inl (by cases hk; rfl))
  have t1 := ((t0.setNew (p := ⟨w.heap.size, 0, none⟩) (Nat.le_refl _) (.string ⟨#[]⟩)).setNew (p := ⟨w.heap.size, 1, none⟩) (Nat.le_refl _) (.slice none 0 0)).setNew (p := ⟨w.heap.size, 2, none⟩) (Nat.le_refl _) (.int .i64 0)
  have k1 := box3_set (u0 := .string ⟨#[]⟩) (u1 := .slice none 0 0) (u2 := .int .i64 0) HB.out
  have m1 : MapHas (((w'.setCell ⟨w.heap.size, 0, none⟩ (.string ⟨#[]⟩)).setCell ⟨w.heap.size, 1, none⟩ (.slice none 0 0)).setCell ⟨w.heap.size, 2, none⟩ (.int .i64 0)) mb (wo Ob.nm S.obs n) := HM.out.kept (by
    have hne : mb ≠ w.heap.size := by have := HH.out.lt.2; omega
    rw [Below.heap_setCell _ _ _ _ hne, Below.heap_setCell _ _ _ _ hne, Below.heap_setCell _ _ _ _ hne])
  generalize ((w'.setCell ⟨w.heap.size, 0, none⟩ (.string ⟨#[]⟩)).setCell ⟨w.heap.size, 1, none⟩ (.slice none 0 0)).setCell ⟨w.heap.size, 2, none⟩ (.int .i64 0) = W at t1 k1 m1 ⊢
  obtain ⟨⟨d0, d1, d2⟩, _⟩ := box3 k1
  refine bodyPost_ret (v := answ [] (.slice none 0 0) 0) (by simp [results, Try.results28, go_sem, answ, d0, d1, d2]; rfl) rfl ⟨rfl, ?_⟩
  exact HH.out.laid t1 m1 ho
end Go.Proofs.Ytadfajeiihonfaa
