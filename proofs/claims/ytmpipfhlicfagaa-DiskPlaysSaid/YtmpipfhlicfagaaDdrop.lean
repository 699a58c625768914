/- A file is taken away. -/
import Derived.Test.YtmpipfhlicfagaaDput
namespace Go.Proofs.Ytmpipfhlicfagaa
open Go.RowKit Go.Maps

/-- A delete, where its run is known. -/
theorem wpList_delete_run {P : Program} (w : World) {ops : Array Oper} {rest : List Oper} {o : Oper} {a : Act} {Q : Exit → Act → World → Prop}
    (hg : o.guard = none) (m x : Operand) (t k : TypeId) (hop : o.op = Op.call { callee := Callee.builtin Builtin.delete, args := #[m, x], argTypes := #[t, k] }) (mv key : Value) (hm : a.eval m = mv) (hx : a.eval x = key) (w' : World)
    (hr : ∀ ty, (Builtin.delete_ #[t, k] ty #[mv, key]).run P w = .ok (.tuple #[]) w') (hK : wpList P ops Q rest (a.put o.dst (.tuple #[])) w') : wpList P ops Q (o :: rest) a w := by
  refine wpList_plain hg fun K' hK' => ?_
  unfold Oper.wp
  simp [execOp, hop, resolve, invoke, builtin, hm, hx, hr, Result.andThen]
  exact hK' _ _ hK

theorem field_file (a : Option Addr) (l c : Nat) (k : Int) (W : World) : (Instr.field 64 (.agg #[.slice a l c, .int .i64 k]) 0).run Try.prog W = .ok (.slice a l c) W := by kernel_rfl

/-- What is behind a file that was taken away. -/
def DropPost (B pb mb : Nat) (nv : Value) (u : Int) (cs : List Cf) (S : St) (hole : List UInt8 → Prop) (n : List UInt8) (w : World) (e : Ending) (w' : World) : Prop :=
  e = .returned (.tuple #[]) ∧ ∃ nv', Dk B w' pb mb nv' u (wo Cf.nm cs n) { S with fs := wo Fl.nm S.fs n } hole ∧ Turn (core pb mb nv) w w' ∧ nv'.ownBlock = nv.ownBlock

theorem Dk.dropEnd {B pb mb : Nat} {nv nv' : Value} {u : Int} {cs : List Cf} {S : St} {hole : List UInt8 → Prop} {n : List UInt8} {w w' : World} (h : Dk B w pb mb nv u cs S hole)
    (hp : w'.heap[pb]? = some (.cells #[.map (some mb), nv', .int .i64 (left { S with fs := wo Fl.nm S.fs n }), .int .i64 u, .bool S.down] 60 (0, 0)))
    (hm : MapHas w' mb (wo Cf.nm cs n)) (hn : w'.ownsRow B 9 1 nv' ((wo Cf.nm cs n).map Cf.nm).length (strs ((wo Cf.nm cs n).map Cf.nm)))
    (ht : Turn (core pb mb nv) w w') (hl : nv'.ownBlock = nv.ownBlock) : Dk B w' pb mb nv' u (wo Cf.nm cs n) { S with fs := wo Fl.nm S.fs n } hole := by
  obtain ⟨b1, b2, b3, b4, b5, b6⟩ := h.base
  obtain ⟨g1, g2, g3, g4, g5, g6⟩ := h.good
  have hfs : (wo Cf.nm cs n).map Cf.f = wo Fl.nm S.fs n := by
    rw [← h.fs]; exact map_wo (k := Fl.nm) Cf.f cs n
  have htot : total (wo Fl.nm S.fs n) ≤ total S.fs := by
    by_cases hx : ∃ f ∈ S.fs, f.nm = n
    · obtain ⟨f, hf, rfl⟩ := hx
      have := total_wo g1 hf
      omega
    · rw [wo_id (fun f hf e => hx ⟨f, hf, e⟩)]
      exact Nat.le_refl _
  refine ⟨hp, h.fuse, hm, hn, hfs, ?_, ?_, ?_, ⟨b1, b2, b3, by rw [hl]; exact b4, by rw [hl]; exact b5, Nat.le_trans b6 ht.size⟩, ⟨up_wo g1 n, fun f hf => g2 f (mem_wo.1 hf).1, fun f hf => g3 f (mem_wo.1 hf).1, ?_, g5, g6⟩⟩
  · intro c hc hh
    have hc := (mem_wo.1 hc).1
    refine owns_kept (h.rows c hc hh) (fun g hg => ?_)
    obtain ⟨a1, a2, a3, _, a5, _⟩ := h.apart c hc g hg
    refine ht.block g a5 (fun hco => ?_)
    rcases hco with e | e | e
    · exact a1 e
    · exact a2 e
    · exact a3 e
  · exact fun c hc => h.form c (mem_wo.1 hc).1
  · intro c hc g hg
    obtain ⟨a1, a2, a3, a4, a5, a6⟩ := h.apart c (mem_wo.1 hc).1 g hg
    exact ⟨a1, a2, by rw [hl]; exact a3, a4, Nat.lt_of_lt_of_le a5 ht.size, fun d hd => a6 d (mem_wo.1 hd).1⟩
  · dsimp only
    omega

set_option maxHeartbeats 2000000 in
theorem drop_at {B pb mb : Nat} {nv : Value} {u : Int} {cs : List Cf} {S : St} {hole : List UInt8 → Prop} {w : World} {n : List UInt8} {cb : List UInt8} {csure : Nat} {ca : Option Addr} {ccap : Nat}
    (h : Dk B w pb mb nv u cs S hole) (hc : (⟨⟨n, cb, csure⟩, .slice ca cb.length ccap⟩ : Cf) ∈ cs) (hn : n.length ≤ maxLen) (hcb : cb.length ≤ 1048576) (hcs : cs.length < 1099511627776) :
    Calls Try.prog 41 #[.pointer (some ⟨pb, 0, none⟩), .string (bs n)] w (DropPost B pb mb nv u cs S hole n w) := by
  obtain ⟨c0, c1, c2, c3, c4, fz⟩ := h.cells
  obtain ⟨i1, i2, i3, i4⟩ := h.ints
  have hlt := h.lt.1
  have hleft : left { S with fs := wo Fl.nm S.fs n } = left S + (cb.length : Int) := by
    have hcf : (⟨n, cb, csure⟩ : Fl) ∈ S.fs := by rw [← h.fs]; exact List.mem_map_of_mem (f := Cf.f) hc
    have := total_wo h.good.up hcf
    simp only [left]
    dsimp only at this ⊢
    omega
  have HL := Lib.hid hleft; clear hleft
  have hlen : (cs.map Cf.nm).length < 1099511627776 := by simpa using hcs
  have hpos : pos id (cs.map Cf.nm) n < (cs.map Cf.nm).length := pos_lt (k := id) ((up_map (k := id) Cf.nm cs).2 h.upc) (List.mem_map_of_mem (f := Cf.nm) hc)
  have hup : Up id (cs.map Cf.nm) := (up_map (k := id) Cf.nm cs).2 h.upc
  have HU := Lib.hid hup; clear hup
  clear fz
  go_enter Try.func41, Try.ntmps41
  go_wp2_with (first
    | (go_at_call 43; refine (search_any B nv (cs.map Cf.nm) n _ h.names HU.out hlen).mono ?_; rintro e w1 ⟨q, y, rfl, rfl⟩)
    | fail)
  refine (delete_any B nv (cs.map Cf.nm) _ (w.drewN q) h.names hpos hlen).mono ?_
  rintro e w2 ⟨nv', rfl, hown, hgrow, hloc⟩
  obtain ⟨na, ncap, hnv⟩ := owns_form hown
  obtain ⟨nl, hnl⟩ : ∃ nl, nl = (cs.map Cf.nm).length - 1 := ⟨_, rfl⟩
  rw [← hnl] at hnv hown
  subst hnv
  have HNL := Lib.hid hnl; clear hnl
  have k2 : ∀ k, k < w.heap.size → nv.ownBlock ≠ some k → w2.heap[k]? = w.heap[k]? := fun k hk hne => hgrow.block k hk (fun e => hne e.symm)
  have pb2 : w2.heap[pb]? = some (.cells #[.map (some mb), nv, .int .i64 (left S), .int .i64 u, .bool S.down] 60 (0, 0)) := by
    rw [k2 pb hlt h.base.2.2.2.1]; exact h.pblk
  have m2 : MapHas w2 mb cs := h.map.kept (k2 mb h.lt.2.1 h.base.2.2.2.2.1)
  have x0 : w2.cell? ⟨pb, 0, none⟩ = some (.map (some mb)) := by rw [cell_of_row w2 pb 0 _ _ (0, 0) pb2]; rfl
  have x1 : w2.cell? ⟨pb, 1, none⟩ = some nv := by rw [cell_of_row w2 pb 1 _ _ (0, 0) pb2]; rfl
  have x2 : w2.cell? ⟨pb, 2, none⟩ = some (.int .i64 (left S)) := by rw [cell_of_row w2 pb 2 _ _ (0, 0) pb2]; rfl
  have y1 : w2.frozen? ⟨pb, 1, none⟩ = false := by simp [World.frozen?, pb2]
  have y2 : w2.frozen? ⟨pb, 2, none⟩ = false := by simp [World.frozen?, pb2]
  have t2 : Turn (core pb mb nv) w w2 := ((Turn.refl _ w).drew q).grown hgrow (fun k hk => Or.inl (Or.inr (Or.inr hk)))
  have PB := Lib.hid pb2; have M2 := Lib.hid m2; have K2 := Lib.hid k2; have OWN := Lib.hid hown; have GR := Lib.hid hgrow; have LOC := Lib.hid hloc
  clear pb2 m2 k2 hown hgrow hloc
  go_wp2
  generalize hW1 : World.setCell _ _ _ = W1
  have tw1 : Turn (fun k => k = pb) w2 W1 := by rw [← hW1]; exact turn_head w2 pb 1 _
  have d0 : W1.cell? ⟨pb, 0, none⟩ = some (.map (some mb)) := by rw [← hW1]; clear hW1; go_simp
  have d2 : W1.cell? ⟨pb, 2, none⟩ = some (.int .i64 (left S)) := by rw [← hW1]; clear hW1; go_simp
  have d3 : W1.frozen? ⟨pb, 2, none⟩ = false := by rw [← hW1]; clear hW1; go_simp
  have p1 : W1.heap[pb]? = some (.cells #[.map (some mb), .slice na nl ncap, .int .i64 (left S), .int .i64 u, .bool S.down] 60 (0, 0)) := by
    rw [← hW1]; exact heap_setCell_same w2 pb 1 _ _ _ PB.out
  have hmb : mb < w2.heap.size := by have := t2.size; have := h.lt.2.1; omega
  have m1 : MapHas W1 mb cs := M2.out.kept (tw1.block mb hmb h.base.2.2.1)
  have hlook : (Instr.lookup 58 (.map (some mb)) (.string (bs n)) false).run Try.prog W1.drew = .ok (.agg #[.slice ca cb.length ccap, .int .i64 csure]) W1.drew := (MapHas.look_yes (w := W1.drew) m1 hc hn).1
  have hfield := field_file ca cb.length ccap csure W1.drew
  have HW1 := Lib.hid hW1; clear hW1
  have P1 := Lib.hid p1; have M1 := Lib.hid m1; clear p1 m1
  go_region
  generalize hW2 : World.drew _ = W2
  have e0 : W2.cell? ⟨pb, 0, none⟩ = some (.map (some mb)) := by rw [← hW2]; clear hW2; go_simp
  have tw2 : Turn (fun k => k = pb) W1 W2 := by rw [← hW2]; exact (turn_head W1 pb 2 _).drew 1
  have p2 : W2.heap[pb]? = some (.cells #[.map (some mb), .slice na nl ncap, .int .i64 (left S + (cb.length : Int)), .int .i64 u, .bool S.down] 60 (0, 0)) := by
    rw [← hW2]; exact heap_setCell_same W1 pb 2 _ _ _ P1.out
  have m3 : MapHas W2 mb cs := M1.out.kept (tw2.block mb (by have := tw1.size; omega) h.base.2.2.1)
  obtain ⟨w', hr, m4, hg⟩ : ∃ w', (∀ ty, (Builtin.delete_ #[58, 9] ty #[.map (some mb), .string (bs n)]).run Try.prog W2 = .ok (.tuple #[]) w') ∧ MapHas w' mb (wo Cf.nm cs n) ∧ W2.grownBy w' (some mb) := by
    obtain ⟨w', hr, m4, hg⟩ := m3.drop h.upc hc hn 0
    exact ⟨w', fun ty => hr, m4, hg⟩
  have HR := Lib.hid hr; clear hr
  have HW2 := Lib.hid hW2; clear hW2
  have P2 := Lib.hid p2; clear p2
  go_wp2_with (first
    | (at_delete; refine wpList_delete_run _ rfl _ _ _ _ rfl _ _ rfl rfl w' HR.out ?_)
    | fail)
  have tA : Turn (core pb mb nv) w W2 := (t2.trans (tw1.mono (fun k _ hk => Or.inl hk))).trans (tw2.mono (fun k _ hk => Or.inl hk))
  have tB : Turn (core pb mb nv) w w' := tA.grown hg (fun k hk => by cases hk; exact Or.inl (Or.inr (Or.inl rfl)))
  have hpbl : pb < W2.heap.size := by have := tA.size; omega
  have hkeys : (wo Cf.nm cs n).map Cf.nm = (cs.map Cf.nm).take (pos id (cs.map Cf.nm) n) ++ (cs.map Cf.nm).drop (pos id (cs.map Cf.nm) n + 1) := by
    have e1 := map_wo (k := id) Cf.nm cs n
    have e2 := wo_at (k := id) (c := n) HU.out (List.mem_map_of_mem (f := Cf.nm) hc)
    exact e1.trans e2
  have hkl : ((wo Cf.nm cs n).map Cf.nm).length = nl := by
    rw [hkeys, HNL.out, List.length_append, List.length_take, List.length_drop]
    omega
  go_end0
  refine ⟨rfl, .slice na nl ncap, h.dropEnd ?_ m4 ?_ tB LOC.out, tB, LOC.out⟩
  · rw [hg.block pb hpbl (fun e => h.base.2.2.1 (by injection e with e; exact e.symm)), P2.out, HL.out]
  · rw [hkl, hkeys]
    refine owns_kept OWN.out (fun g hgn => ?_)
    have hgn' : nv.ownBlock = some g := LOC.out ▸ hgn
    have hg2 := (OWN.out.lt g hgn).2
    rw [hg.block g (by have := tw1.size; have := tw2.size; omega) (fun e => h.base.2.2.2.2.1 (by injection e with e; rw [← e]; exact hgn')),
      tw2.block g (by have := tw1.size; omega) (fun e => h.base.2.2.2.1 (e ▸ hgn')), tw1.block g hg2 (fun e => h.base.2.2.2.1 (e ▸ hgn'))]

theorem drop_any {B pb mb : Nat} {nv : Value} {u : Int} {cs : List Cf} {S : St} {hole : List UInt8 → Prop} {w : World} {c : Cf} (h : Dk B w pb mb nv u cs S hole) (hc : c ∈ cs) (hcs : cs.length < 1099511627776) :
    Calls Try.prog 41 #[.pointer (some ⟨pb, 0, none⟩), .string (bs c.nm)] w (DropPost B pb mb nv u cs S hole c.nm w) := by
  obtain ⟨ca, ccap, hcv⟩ := h.form c hc
  have hcf : c.f ∈ S.fs := by rw [← h.fs]; exact List.mem_map_of_mem (f := Cf.f) hc
  have hcb := len_le h.good hcf
  have hn : c.nm.length ≤ maxLen := by have := (h.good.names c.f hcf).2; unfold Cf.nm maxLen; omega
  obtain ⟨⟨n', cb, csure⟩, v⟩ := c
  dsimp only at hcv hcb
  subst hcv
  exact drop_at h hc hn hcb hcs
end Go.Proofs.Ytmpipfhlicfagaa
