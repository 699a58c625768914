/- The program's directory: one of twice the places takes its place. -/
import Derived.Test.YtbjginlhgedjdaaDoorKpfrom
import Derived.Test.YtbjginlhgedjdaaDoorKpnew
import Derived.Test.YtbjginlhgedjdaaDoorKptwice
namespace Go.Proofs.YtbjginlhgedjdaaDoor.K
open Go.RowKit Go.Shelf
set_option linter.unusedVariables false
attribute [local go_sem] Oper.semAt_some

/-- Put, with room. -/
theorem pput_room {B wb wr : Nat} {T : Dr} {W : World} {k : List UInt8} {l : Lc} (h : Pk B W wb wr (cnt T) T) (hM : Ml B W) (hk : k.length ≤ maxLen) (hv : Inv hm T) (hr : (∀ i v, ¬ Has T i k v) → cnt T < T.length ∧ ¬ T.length < 2 * (cnt T + 1)) :
    Calls Tryd.prog 10 #[.pointer (some ⟨wb, 0, none⟩), .string (bs k), locV l] W (PkStay B W wb wr (cnt (putS T k l)) (putS T k l) (.tuple #[])) := by
  rcases has_cases T k with ⟨_, i, v, hi⟩ | ⟨_, hno⟩
  · rw [putS_yes hv.one hi, cnt_same hi]
    exact pput_yes h hM hk hv hi
  · obtain ⟨h1, h2⟩ := hr hno
    obtain ⟨e, he⟩ := empty_is h1
    have hpos : 0 < T.length := by omega
    rw [putS_room hno h2, lay_cnt (s := (k, l)) (homeLt k T.length hpos) he]
    exact pput_fit h hM hk hno h1 h2
theorem Pk.grown {B pb rb n : Nat} {S : Dr} {W W' : World} {row : Option Nat} (h : Pk B W pb rb n S) (hg : W.grownBy W' row) (hr : ∀ r, row = some r → ∃ o : Obj, W.heap[r]? = some o ∧ o.isCells = false) : Pk B W' pb rb n S := by
  have hne : ∀ k cs t, W.heap[k]? = some (Obj.cells cs t (0, 0)) → some k ≠ row := fun k cs t hk e => by
    obtain ⟨o, ho, hc⟩ := hr k e.symm
    rw [hk] at ho; cases ho; cases hc
  exact { h with
    blk := by rw [hg.block pb h.lt.1 (hne _ _ _ h.blk)]; exact h.blk
    row := by rw [hg.block rb h.lt.2 (hne _ _ _ h.row)]; exact h.row
    base := ⟨h.base.1, h.base.2.1, h.base.2.2.1, Nat.le_trans h.base.2.2.2 hg.size⟩ }

/-- The wider one's blocks, as the walk over the old one knows them. -/
def Gw (wb wr : Nat) (_ : World) (q : Nat) : Prop := q = wb ∨ q = wr
def Vw (wb wr : Nat) (W : World) : Prop := wb < W.heap.size ∧ wr < W.heap.size
theorem sideW (wb wr : Nat) : Side (Gw wb wr) (Vw wb wr) :=
  ⟨fun W h g hg => by rcases hg with rfl | rfl; exact h.1; exact h.2, fun W W' h hb => ⟨⟨Nat.lt_of_lt_of_le h.1 hb.size, Nat.lt_of_lt_of_le h.2 hb.size⟩, fun _ hg => hg⟩⟩
def KpW (wb wr : Nat) (W W' : World) : Prop := Vw wb wr W → Vw wb wr W' ∧ GTurn (Gw wb wr) W W'
theorem KpW.trans {wb wr : Nat} {A B C : World} (h : KpW wb wr A B) (k : KpW wb wr B C) : KpW wb wr A C := fun hA => ⟨(k (h hA).1).1, (h hA).2.trans (k (h hA).1).2⟩
theorem KpW.turn {wb wr : Nat} {W W' : World} (t : Turn (fun q => q = wb ∨ q = wr) W W') : KpW wb wr W W' := fun h =>
  ⟨⟨Nat.lt_of_lt_of_le h.1 t.size, Nat.lt_of_lt_of_le h.2 t.size⟩, t.os, t.tape, t.output, t.size, fun q o ho _ hn => (t.block q (Array.getElem?_eq_some_iff.1 ho).1 hn).trans ho, fun q hq => Or.inl hq⟩
theorem KpW.put {wb wr : Nat} (W : World) (l : Nat) (o o' : Obj) (ho : W.heap[l]? = some o) (h1 : o.isCells = false) (h2 : o.isWalk = false) : KpW wb wr W (W.putObj l o') := fun h => by
  have g := grownBy_putObj' W l o'
  refine ⟨⟨Nat.lt_of_lt_of_le h.1 g.size, Nat.lt_of_lt_of_le h.2 g.size⟩, g.os, g.tape, g.output, g.size, fun q o2 ho2 hc _ => ?_, fun q hq => Or.inl hq⟩
  have hne : q ≠ l := fun e => by
    subst e
    rw [ho] at ho2; cases ho2
    rcases hc with hc | hc
    · rw [h1] at hc; cases hc
    · rw [h2] at hc; cases hc
  rw [World.putObj_heap_other hne]; exact ho2

/-- Between two rounds. -/
structure Wide (w : World) (S : Dr) (wb wr b2 : Nat) (W : World) (pre : List (Ent Lc)) : Prop where
  dir : Pk w.heap.size W wb wr (cnt (Tf (2 * S.length) pre)) (Tf (2 * S.length) pre)
  box : W.heap[b2]? = some (.cells #[.pointer (some ⟨wb, 0, none⟩)] 25 (0, 0))
  bel : Below w.heap.size w W

theorem Wide.grown {w : World} {S : Dr} {wb wr b2 : Nat} {W W' : World} {pre : List (Ent Lc)} {row : Option Nat} (h : Wide w S wb wr b2 W pre) (hg : W.grownBy W' row) (hr : ∀ r, row = some r → w.heap.size ≤ r ∧ ∃ o : Obj, W.heap[r]? = some o ∧ o.isCells = false) : Wide w S wb wr b2 W' pre := by
  have hlt := (Array.getElem?_eq_some_iff.1 h.box).1
  refine ⟨h.dir.grown hg (fun r e => (hr r e).2), ?_, h.bel.grown hg h.bel.size (fun k e => (hr k e).1)⟩
  rw [hg.block b2 hlt (fun e => ?_)]
  · exact h.box
  · obtain ⟨_, o, ho, hc⟩ := hr b2 e.symm
    rw [h.box] at ho; cases ho; cases hc
theorem Wide.turn {w : World} {S : Dr} {wb wr b2 : Nat} {W W' : World} {pre pre' : List (Ent Lc)} (h : Wide w S wb wr b2 W pre) (hd : Pk w.heap.size W' wb wr (cnt (Tf (2 * S.length) pre')) (Tf (2 * S.length) pre')) (t : Turn (fun q => q = wb ∨ q = wr) W W') (h1 : b2 ≠ wb) (h2 : b2 ≠ wr) : Wide w S wb wr b2 W' pre' := by
  have hlt := (Array.getElem?_eq_some_iff.1 h.box).1
  refine ⟨hd, ?_, h.bel.trans (t.below (fun k hk => ?_) h.bel.size)⟩
  · rw [t.block b2 hlt (fun e => by rcases e with e | e; exact h1 e; exact h2 e)]; exact h.box
  · rcases hk with rfl | rfl
    · exact h.dir.base.1
    · exact h.dir.base.2.1
theorem keepsFrom_turn {wb wr n5 : Nat} {W W' : World} (t : Turn (fun q => q = wb ∨ q = wr) W W') (h1 : wb < n5) (h2 : wr < n5) : KeepsFrom n5 W W' :=
  ⟨t.size, fun k o hB ho _ => (t.block k (Array.getElem?_eq_some_iff.1 ho).1 (fun e => by rcases e with e | e <;> omega)).trans ho⟩

set_option maxRecDepth 100000 in
set_option maxHeartbeats 1000000 in
theorem pdouble_any {B pb rb n : Nat} {S : Dr} {w : World} (h : Pk B w pb rb n S) (hM : Ml B w) (hO : Ok hm S) (hks : ∀ s ∈ sre S, s.1.length ≤ maxLen) (hfew : 2 * S.length ≤ 1024) :
    Calls Tryd.prog 26 #[.pointer (some ⟨pb, 0, none⟩)] w fun e w' => e = .returned (.tuple #[]) ∧ ∃ rb', Pk B w' pb rb' (cnt S) (grow hm S) ∧ w.heap.size ≤ rb' ∧ Turn (fun k => k = pb) w w' := by
  obtain ⟨L, hL⟩ : ∃ L, L = S.length := ⟨_, rfl⟩
  have HC := Lib.hid (pcap_any h)
  rw [← hL] at HC hfew
  have hsz := psized_any w (2 * L) hfew
  rw [show ((2 * L : Nat) : Int) = 2 * (L : Int) by omega] at hsz
  have HSZ := Lib.hid hsz
  have H := Lib.hid h; have HM := Lib.hid hM; have HO := Lib.hid hO; have HKS := Lib.hid hks; have HL := Lib.hid hL
  clear h hM hO hks hL hsz
  refine (callsIn_wide (n := 10)).1 ?_
  refine callsIn_of_wp_marks Tryd.func26 rfl trivial ?_ rfl
  simp only [Tryd.ntmps26, List.size_toArray, List.length_cons, List.length_nil, Nat.reduceAdd, Nat.reduceSub, Array.replicate_succ, Array.replicate_zero, List.push_toArray, List.append_toArray, List.nil_append, List.cons_append]
  gi_wp2
  refine ⟨trivial, (callsIn_wide (n := 9)).2 (HC.out.mono ?_)⟩
  rintro e w0 ⟨rfl, rfl⟩
  gi_wp2
  refine ⟨trivial, (callsIn_wide (n := 9)).2 (HSZ.out.mono ?_)⟩
  rintro e w1 ⟨wb, wr, rfl, hp1, hb1⟩
  gi_wp2
  have hba : Below w1.heap.size w1 (w1.alloc (.cells #[.pointer (some ⟨wb, 0, none⟩)] 25)) := (Below.refl _ _).alloc (Nat.le_refl _) _
  have hb2 : Below w.heap.size w (w1.alloc (.cells #[.pointer (some ⟨wb, 0, none⟩)] 25)) := hb1.trans (hba.mono hb1.size)
  have hbx := heap_alloc_new w1 (.cells #[.pointer (some ⟨wb, 0, none⟩)] 25)
  have hp2 := hp1.below hba
  have hV2 : Vw wb wr (w1.alloc (.cells #[.pointer (some ⟨wb, 0, none⟩)] 25)) := hp2.lt
  have hE : (sre S).attach.map Subtype.val = fromE S [] := by rw [from_all]; exact List.attach_map_subtype_val _
  have hF := pfrom_on (α := { x // x ∈ sre S }) Subtype.val (sre S).attach (sideW wb wr) (H.out.below hb2) HO.out.inv.one hE hV2
  rw [show bs ([] : List UInt8) = ⟨#[]⟩ from rfl] at hF
  have HF := Lib.hid hF
  generalize w1.alloc _ = w2 at *
  have HP2 := Lib.hid hp2; have HBX := Lib.hid hbx; have HB2 := Lib.hid hb2
  clear hF hp1 hb1 hba hp2 hV2 hb2 hbx hE
  refine ⟨trivial, (callsIn_wide (n := 9)).2 (HF.out.mono ?_)⟩
  rintro e w3 ⟨lb, rfl, hb3, hseq⟩
  gi_wp2
  have hw3 : Wide w S wb wr w1.heap.size w3 [] := by
    refine ⟨?_, ?_, HB2.out.trans (hb3.mono HB2.out.size)⟩
    · have := HP2.out.below hb3
      rw [show Tf (2 * S.length) [] = none' (2 * L) by rw [HL.out]; rfl, cnt_none']; exact this
    · rw [hb3.block _ (Array.getElem?_eq_some_iff.1 HBX.out).1]; exact HBX.out
  have hlt1 : wb < w3.heap.size ∧ wr < w3.heap.size := hw3.dir.lt
  have hltb := (Array.getElem?_eq_some_iff.1 hw3.box).1
  have hnb1 : w1.heap.size ≠ wb := fun e => by
    have := hw3.box
    rw [e, hw3.dir.blk] at this
    simp at this
  have hnb2 : w1.heap.size ≠ wr := fun e => by
    have := hw3.box
    rw [e, hw3.dir.row] at this
    simp at this
  have hn5 : w.heap.size ≤ w3.heap.size := hw3.bel.size
  generalize w1.heap.size = b2 at *
  generalize hn5' : w3.heap.size = n5 at *
  clear HBX HP2 HB2 HSZ HC
  refine wpIn_rangeFunc_ownH rfl (by omega) (gf := 36) (lb := lb) rfl trivial (enters_of Tryd.func36 (by kernel_rfl) rfl) (hseq (KpW wb wr) (fun _ _ h => h)) (fun h1 h2 => h1.trans h2)
    (fun W l o o' hl h1 h2 h3 => KpW.put W l o o' h1 h2 h3) (Below.refl _ _) (fun _ => rfl)
    (fun pre W => Wide w S wb wr b2 W (pre.map Subtype.val) ∧ n5 ≤ W.heap.size) (fun _ _ _ => False) (fun s W W' row h hg hr => ⟨h.1.grown hg (fun r e => by have := hr r e; exact ⟨by omega, this.2⟩), Nat.le_trans h.2 hg.size⟩) (fun _ _ _ _ _ hs _ _ => hs) ⟨hw3, by omega⟩
    (fun x a' W => ∃ Bx, n5 ≤ Bx ∧ W.heap[Bx]? = some (.cells #[.int .i64 x.1.2.seg, .int .i64 x.1.2.off, .int .i64 x.1.2.len, .int .u64 x.1.2.seq] 31 (0, 0)) ∧ a' = { tmps := #[.pointer (some ⟨pb, 0, none⟩), undef, .pointer (some ⟨b2, 0, none⟩), .string (bs x.1.1), .pointer (some ⟨Bx, 0, none⟩), .pointer (some ⟨pb, 0, none⟩), .int .i64 L, .int .i64 (2 * L), .pointer (some ⟨wb, 0, none⟩), .pointer (some ⟨pb, 0, none⟩), .func (.func 36) #[] lb, .string (bs x.1.1), .agg #[.int .i64 x.1.2.seg, .int .i64 x.1.2.off, .int .i64 x.1.2.len, .int .u64 x.1.2.seq], undef, undef, undef, undef, undef, undef, undef, undef, undef], defers := [] })
    (fun x a' _ X Y row hs hg hr => by
      obtain ⟨Bx, h1, h2, h3⟩ := hs
      refine ⟨Bx, h1, (hg.block Bx (Array.getElem?_eq_some_iff.1 h2).1 (fun e => ?_)).trans h2, h3⟩
      obtain ⟨o, ho, hc⟩ := (hr Bx e.symm).2
      rw [h2] at ho; cases ho; cases hc)
    ?assign ?body ?done ?stop
  case assign =>
    rintro l pre x W K hi hK
    simp only [encE, locV]
    gi_wp2
    exact hK _ _ ((KeepsOthers.alloc _ _).from _) (KpW.turn ((Turn.refl _ _).alloc _)) ⟨hi.1.grown (World.grownBy_alloc _ _ none) (fun r e => by cases e), by simp; omega⟩ ⟨W.heap.size, hi.2, heap_alloc_new W _, rfl⟩
  case body =>
    rintro l pre x a' W hl ⟨r, hr⟩ ⟨hP, hPz⟩ ⟨Bx, hBx, bX, rfl⟩ hlt
    have hcl := fun t => cell_of_row W Bx t _ _ (0, 0) bX
    have e0 := hcl 0; have e1 := hcl 1; have e2 := hcl 2; have e3 := hcl 3
    simp only [List.getElem?_toArray, List.getElem?_cons_succ, List.getElem?_cons_zero] at e0 e1 e2 e3
    have c2 : W.cell? ⟨b2, 0, none⟩ = some (.pointer (some ⟨wb, 0, none⟩)) := by rw [cell_of_row W b2 0 _ _ (0, 0) hP.box]; rfl
    have hpm : ∀ y ∈ pre.map Subtype.val, y ∈ sre S := fun y hy => by
      obtain ⟨z, _, rfl⟩ := List.mem_map.1 hy
      exact z.2
    obtain ⟨t1, t2, t3⟩ := Tf_facts HO.out _ hpm
    have hml : Ml w.heap.size W := by
      obtain ⟨q1, q2, q3, q4⟩ := HM.out
      have hl0 := (Array.getElem?_eq_some_iff.1 q4).1
      exact ⟨hl0, q2, q3, by rw [hP.bel.block _ hl0]; exact q4⟩
    have hput := pput_room (k := x.1.1) (l := x.1.2) hP.dir hml (HKS.out _ x.2) t1.inv (fun hno => Tf_room HO.out hpm x.2 hno)
    rw [← Tf_snoc] at hput
    have HPU := Lib.hid hput
    unfold locV at HPU
    clear hput hcl
    gi_wp2
    refine ⟨trivial, ?_⟩
    refine (CallsIn.inRound l (callsIn_wide.2 HPU.out)).mono ?_
    rintro e W2 ⟨rfl, hp2, t2⟩
    have hs2 := t2.size
    have hfin : Wide w S wb wr b2 W2 ((pre ++ [x]).map Subtype.val) ∧ n5 ≤ W2.heap.size := ⟨by rw [List.map_append]; exact hP.turn hp2 t2 hnb1 hnb2, by omega⟩
    have HFN := Lib.hid hfin
    clear hfin hp2 HPU e0 e1 e2 e3 c2
    gi_wp2
    exact ⟨keepsFrom_turn t2 (by omega) (by omega), KpW.turn t2, HFN.out⟩
  case done =>
    rintro D ys W hD rfl ⟨hP, hPz⟩ hK
    have hT : (sre S).attach.map Subtype.val = sre S := List.attach_map_subtype_val _
    rw [hT] at hP
    have hd := hP.dir
    rw [Tf_grow HO.out] at hd
    obtain ⟨_, gl, gc, _⟩ := grow_facts homeLt HO.out.inv HO.out.pos
    have f0 := hd.head
    have f1 := hd.many
    rw [gl, ← HL.out] at f0
    rw [gc] at f1
    have c2 : W.cell? ⟨b2, 0, none⟩ = some (.pointer (some ⟨wb, 0, none⟩)) := by rw [cell_of_row W b2 0 _ _ (0, 0) hP.box]; rfl
    have hpl := H.out.lt
    have hpb : W.heap[pb]? = some (.cells #[.slice (some ⟨rb, 0, none⟩) S.length S.length, .int .i64 n] 57 (0, 0)) := by rw [hP.bel.block _ hpl.1]; exact H.out.blk
    have fz : ∀ t, W.frozen? ⟨pb, t, none⟩ = false := fun t => by simp only [World.frozen?, hpb]; simp
    have HD := Lib.hid hd; have HPB := Lib.hid hpb; have HBL := Lib.hid hP.bel
    have d0 : W.cell? ⟨pb, 0, none⟩ = some (.slice (some ⟨rb, 0, none⟩) S.length S.length) := by rw [cell_of_row W pb 0 _ _ (0, 0) hpb]; rfl
    have d1 : W.cell? ⟨pb, 1, none⟩ = some (.int .i64 n) := by rw [cell_of_row W pb 1 _ _ (0, 0) hpb]; rfl
    have hpD : pb ≠ D := by omega
    have hwD : wr ≠ D := by omega
    have hwp : wr ≠ pb := fun e => by have := hd.base.2.1; omega
    have HGL := Lib.hid gl; have HGC := Lib.hid gc
    clear hd hpb gl gc hP
    gi_wp2
    have hk2 := (KeepsOthers.setCell W ⟨pb, 0, none⟩ (.slice (some ⟨wr, 0, none⟩) (2 * L) (2 * L))).trans (KeepsOthers.setCell _ ⟨pb, 1, none⟩ (.int .i64 ((cnt S : Nat) : Int)))
    have hKD := hk2.same D _ hK rfl
    have g1 := heap_setCell_same W pb 0 _ _ (.slice (some ⟨wr, 0, none⟩) (2 * L) (2 * L)) HPB.out
    have g2 := heap_setCell_same _ pb 1 _ _ (.int .i64 ((cnt S : Nat) : Int)) g1
    have ht : Turn (fun q => q = pb) W ((W.setCell ⟨pb, 0, none⟩ (.slice (some ⟨wr, 0, none⟩) (2 * L) (2 * L))).setCell ⟨pb, 1, none⟩ (.int .i64 ((cnt S : Nat) : Int))) :=
      Turn.setCell (F := fun q => q = pb) (p := ⟨pb, 1, none⟩) (Turn.setCell (F := fun q => q = pb) (p := ⟨pb, 0, none⟩) (Turn.refl _ W) rfl _) rfl _
    generalize (World.setCell (World.setCell W _ _) _ _) = W2 at *
    have hpo := grownBy_putObj' W2 D (.deferred none)
    refine ⟨by simp, .inl ⟨_, _, rfl, run_takeDeferred hKD, ?_⟩⟩
    refine ⟨.tuple #[], results_none rfl _ _ _, rfl, wr, ?_, HD.out.base.2.1, ?_⟩
    · have l2 := (Array.getElem?_eq_some_iff.1 g2).1
      have hwrl := HD.out.lt.2
      refine ⟨?_, ?_, ⟨H.out.base.1, by have := HD.out.base.2.1; have := H.out.base.2.2.2; omega, fun e => hwp e.symm, ?_⟩, ?_, by rw [← HGC.out]; exact HD.out.cnt⟩
      · rw [World.putObj_heap_other hpD, g2, HGL.out, ← HL.out]; rfl
      · rw [World.putObj_heap_other hwD, ht.block wr hwrl hwp]; exact HD.out.row
      · have := hpo.size; have := ht.size; have := H.out.base.2.2.2; have := HBL.out.size; omega
      · exact HD.out.few
    · refine ((Turn.of_below (fun q => q = pb) HBL.out (Nat.le_refl _)).trans ht).grown hpo (fun q hq => ?_)
      cases hq
      exact Or.inr (by omega)
  case stop =>
    rintro D c pre W _ _ h _
    exact h.elim
end Go.Proofs.YtbjginlhgedjdaaDoor.K
