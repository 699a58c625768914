/- A file is put in. -/
import Derived.Test.YtmpipfhlicfagaaDdisk
import Derived.StillTailTactics
import Derived.RegionTactic
import Derived.ChangeAlike
namespace Go.Proofs.Ytmpipfhlicfagaa
open Go.RowKit Go.Maps

/-- What a file must be that is put in. -/
structure PutIn (B : Nat) (w : World) (pb mb : Nat) (nv : Value) (cs : List Cf) (S : St) (x : Cf) : Prop where
  row : w.ownsRow B 5 1 x.v x.f.bt.length (bytesOf x.f.bt)
  right : 1 ≤ x.nm.length ∧ x.nm.length ≤ 20
  sure : x.f.sure ≤ x.f.bt.length
  fits : (total (puts S x.f).fs : Int) ≤ S.room
  apart : ∀ g, x.v.ownBlock = some g → g ≠ pb ∧ g ≠ mb ∧ nv.ownBlock ≠ some g ∧ ∀ d ∈ cs, d.nm ≠ x.nm → d.v.ownBlock ≠ some g

theorem owns_form {B : Nat} {w : World} {e : TypeId} {v : Value} {n : Nat} {xs : List Value} (h : w.ownsRow B e 1 v n xs) : ∃ a cap, v = .slice a n cap := by
  rcases owns_cases h with ⟨rfl, h0, _⟩ | ⟨g, cap, _, hv, _⟩
  · exact ⟨none, 0, by rw [h0]⟩
  · exact ⟨_, cap, hv⟩

theorem PutIn.kept {B pb mb : Nat} {nv : Value} {cs : List Cf} {S : St} {x : Cf} {w w' : World} {G : Nat → Prop} (h : PutIn B w pb mb nv cs S x) (t : Turn G w w') (hG : ∀ g, x.v.ownBlock = some g → ¬ G g) : PutIn B w' pb mb nv cs S x :=
  { h with row := owns_kept h.row (fun g hg => t.block g (h.row.lt g hg).2 (hG g hg)) }

theorem fs_puts {cs : List Cf} {S : St} (hf : cs.map Cf.f = S.fs) (x : Cf) : (ins Cf.nm (wo Cf.nm cs x.nm) x).map Cf.f = (puts S x.f).fs := by
  have e1 := map_ins (k := Fl.nm) Cf.f (wo Cf.nm cs x.nm) x
  have e2 := map_wo (k := Fl.nm) Cf.f cs x.nm
  show (ins (fun c : Cf => c.f.nm) (wo (fun c : Cf => c.f.nm) cs x.nm) x).map Cf.f = ins Fl.nm (wo Fl.nm S.fs x.f.nm) x.f
  rw [← hf]
  exact e1.trans (by rw [show wo Cf.nm cs x.nm = wo (fun c : Cf => c.f.nm) cs x.nm from rfl, e2]; rfl)

theorem Dk.putEnd {B pb mb : Nat} {nv nv' : Value} {u : Int} {cs : List Cf} {S : St} {x : Cf} {w w' : World} (h : Dk B w pb mb nv u cs S (fun m => m = x.nm)) (hx : PutIn B w pb mb nv cs S x)
    (hp : w'.heap[pb]? = some (.cells #[.map (some mb), nv', .int .i64 (left (puts S x.f)), .int .i64 u, .bool S.down] 60 (0, 0)))
    (hm : MapHas w' mb (ins Cf.nm (wo Cf.nm cs x.nm) x))
    (hn : w'.ownsRow B 9 1 nv' ((ins Cf.nm (wo Cf.nm cs x.nm) x).map Cf.nm).length (strs ((ins Cf.nm (wo Cf.nm cs x.nm) x).map Cf.nm)))
    (ht : Turn (core pb mb nv) w w') (hl : nv'.ownBlock = nv.ownBlock ∨ ∃ g, nv'.ownBlock = some g ∧ w.heap.size ≤ g) : Dk B w' pb mb nv' u (ins Cf.nm (wo Cf.nm cs x.nm) x) (puts S x.f) none' := by
  obtain ⟨b1, b2, b3, b4, b5, b6⟩ := h.base
  obtain ⟨l1, l2, l3⟩ := h.lt
  have hmem : ∀ c, c ∈ ins Cf.nm (wo Cf.nm cs x.nm) x ↔ c = x ∨ (c ∈ cs ∧ c.nm ≠ x.nm) := fun c => by rw [mem_ins, mem_wo]
  have hxl : ∀ g, x.v.ownBlock = some g → B ≤ g ∧ g < w.heap.size := hx.row.lt
  have hnew : ∀ g, g < w.heap.size → nv.ownBlock ≠ some g → nv'.ownBlock ≠ some g := fun g hg hne e => by
    rcases hl with hl | ⟨g', hl, hg'⟩
    · exact hne (hl ▸ e)
    · rw [hl] at e; cases e; omega
  have hfs := fs_puts h.fs x
  have hupw : Up Cf.nm (ins Cf.nm (wo Cf.nm cs x.nm) x) := up_ins (up_wo h.upc _) (fun c hc => (mem_wo.1 hc).2)
  have hmemf : ∀ f ∈ (puts S x.f).fs, f = x.f ∨ f ∈ S.fs := fun f hf => by
    rcases mem_ins.1 hf with rfl | hf
    · exact Or.inl rfl
    · exact Or.inr (mem_wo.1 hf).1
  obtain ⟨g1, g2, g3, g4, g5, g6⟩ := h.good
  refine ⟨hp, h.fuse, hm, hn, hfs, ?_, ?_, ?_, ⟨b1, b2, b3, hnew _ l1 b4, hnew _ l2 b5, Nat.le_trans b6 ht.size⟩, ⟨?_, ?_, ?_, hx.fits, g5, g6⟩⟩
  · intro c hc _
    rcases (hmem c).1 hc with rfl | ⟨hc, hne⟩
    · exact owns_kept hx.row (fun g hg => ht.block g (hxl g hg).2 (fun hco => by
        obtain ⟨a1, a2, a3, _⟩ := hx.apart g hg
        rcases hco with e | e | e
        · exact a1 e
        · exact a2 e
        · exact a3 e))
    · exact owns_kept (h.rows c hc hne) (fun g hg => by
        obtain ⟨a1, a2, a3, _, a5, _⟩ := h.apart c hc g hg
        refine ht.block g a5 (fun hco => ?_)
        rcases hco with e | e | e
        · exact a1 e
        · exact a2 e
        · exact a3 e)
  · intro c hc
    rcases (hmem c).1 hc with rfl | ⟨hc, hne⟩
    · exact owns_form hx.row
    · exact h.form c hc
  · intro c hc g hg
    rcases (hmem c).1 hc with rfl | ⟨hc, hne⟩
    · obtain ⟨a1, a2, a3, a4⟩ := hx.apart g hg
      refine ⟨a1, a2, hnew g (hxl g hg).2 a3, (hxl g hg).1, Nat.lt_of_lt_of_le (hxl g hg).2 ht.size, fun d hd hdn => ?_⟩
      rcases (hmem d).1 hd with rfl | ⟨hd, hdne⟩
      · exact absurd rfl hdn
      · exact a4 d hd hdne
    · obtain ⟨a1, a2, a3, a4, a5, a6⟩ := h.apart c hc g hg
      refine ⟨a1, a2, hnew g a5 a3, a4, Nat.lt_of_lt_of_le a5 ht.size, fun d hd hdn => ?_⟩
      rcases (hmem d).1 hd with e | ⟨hd, hdne⟩
      · subst e
        intro e
        exact (hx.apart g e).2.2.2 c ‹c ∈ cs› hne hg
      · exact a6 d hd hdn
  · rw [← hfs]
    exact (up_map (k := Fl.nm) Cf.f _).2 hupw
  · intro f hf
    rcases hmemf f hf with rfl | hf
    · exact hx.right
    · exact g2 f hf
  · intro f hf
    rcases hmemf f hf with rfl | hf
    · exact hx.sure
    · exact g3 f hf

/-- A look-up, where its run is known. -/
theorem wpList_lookup_run {P : Program} (w : World) {ops : Array Oper} {rest : List Oper} {o : Oper} {a : Act} {Q : Exit → Act → World → Prop}
    (hg : o.guard = none) (m x : Operand) (t : TypeId) (c : Bool) (hop : o.op = Op.lookup t m x c) (mv key : Value) (hm : a.eval m = mv) (hx : a.eval x = key) (v : Value)
    (hr : (Instr.lookup t mv key c).run P w = .ok v w) (hK : wpList P ops Q rest (a.put o.dst v) w) : wpList P ops Q (o :: rest) a w := by
  refine wpList_plain hg fun K' hK' => ?_
  unfold Oper.wp
  simp [execOp, hop, hm, hx, hr, Result.andThen]
  exact hK' _ _ hK

/-- A store into a map, where its run is known. -/
theorem wpList_mapUpdate_run {P : Program} (w : World) {ops : Array Oper} {rest : List Oper} {o : Oper} {a : Act} {Q : Exit → Act → World → Prop}
    (hg : o.guard = none) (m x v : Operand) (t : TypeId) (hop : o.op = Op.mapUpdate t m x v) (mv key val : Value) (hm : a.eval m = mv) (hx : a.eval x = key) (hv : a.eval v = val) (w' : World)
    (hr : (Instr.mapUpdate t mv key val).run P w = .ok () w') (hK : wpList P ops Q rest (a.put o.dst undef) w') : wpList P ops Q (o :: rest) a w := by
  refine wpList_plain hg fun K' hK' => ?_
  unfold Oper.wp
  simp [execOp, hop, hm, hx, hv, hr, Result.andThen]
  exact hK' _ _ hK

/-- What is behind a file that was put in. -/
def PutPost (B pb mb : Nat) (nv : Value) (u : Int) (cs : List Cf) (S : St) (x : Cf) (w : World) (e : Ending) (w' : World) : Prop :=
  e = .returned (.tuple #[]) ∧ ∃ nv', Dk B w' pb mb nv' u (ins Cf.nm (wo Cf.nm cs x.nm) x) (puts S x.f) none' ∧ Turn (core pb mb nv) w w' ∧ (nv'.ownBlock = nv.ownBlock ∨ ∃ g, nv'.ownBlock = some g ∧ w.heap.size ≤ g)

/-- .. of one that was there: its names stay where they are. -/
def PutThere (B pb mb : Nat) (nv : Value) (u : Int) (cs : List Cf) (S : St) (x : Cf) (w : World) (e : Ending) (w' : World) : Prop :=
  e = .returned (.tuple #[]) ∧ Dk B w' pb mb nv u (ins Cf.nm (wo Cf.nm cs x.nm) x) (puts S x.f) none' ∧ Turn (core pb mb nv) w w'

set_option maxHeartbeats 1000000 in
theorem put_there {B pb mb : Nat} {nv : Value} {u : Int} {cs : List Cf} {S : St} {w : World} {n : List UInt8} {cb xb : List UInt8} {csure xsure : Nat} {ca xa : Option Addr} {ccap xcap : Nat}
    (h : Dk B w pb mb nv u cs S (fun m => m = n)) (hx : PutIn B w pb mb nv cs S ⟨⟨n, xb, xsure⟩, .slice xa xb.length xcap⟩) (hc : (⟨⟨n, cb, csure⟩, .slice ca cb.length ccap⟩ : Cf) ∈ cs)
    (hn : n.length ≤ maxLen) (hxb : xb.length ≤ 1048576) (hcb : cb.length ≤ 1048576) (hcs : cs.length < 1099511627776) :
    Calls Try.prog 35 #[.pointer (some ⟨pb, 0, none⟩), .string (bs n), .agg #[.slice xa xb.length xcap, .int .i64 xsure]] w (PutThere B pb mb nv u cs S ⟨⟨n, xb, xsure⟩, .slice xa xb.length xcap⟩ w) := by
  obtain ⟨c0, c1, c2, c3, c4, fz⟩ := h.cells
  obtain ⟨i1, i2, i3, i4⟩ := h.ints
  have f2 := fz 2
  clear fz
  have hlt := h.lt.1
  have hset := Lib.hid (h.setAt 2 (.int .i64 (left S + ((cb.length : Int) - (xb.length : Int)))))
  have hleft : left (puts S ⟨n, xb, xsure⟩) = left S + ((cb.length : Int) - (xb.length : Int)) := by
    have hcf : (⟨n, cb, csure⟩ : Fl) ∈ S.fs := by rw [← h.fs]; exact List.mem_map_of_mem (f := Cf.f) hc
    have := total_wo h.good.up hcf
    simp only [left, puts, total_ins]
    dsimp only at this ⊢
    omega
  have HL := Lib.hid hleft; clear hleft
  go_enter Try.func35, Try.ntmps35
  go_wp2_with (first | (at_lookup; refine wpList_lookup_run _ rfl _ _ _ _ rfl _ _ rfl rfl (.tuple #[.agg #[.slice ca cb.length ccap, .int .i64 csure], .bool true]) (MapHas.look_yes (h.map.kept (Below.heap_alloc _ _ _ h.lt.2.1)) hc hn).2 ?_))
  go_region
  go_wp2
  generalize hW0 : World.drew _ = W0
  have d0 : W0.cell? ⟨pb, 0, none⟩ = some (.map (some mb)) := by rw [← hW0]; clear hW0; go_simp
  have d5 : W0.cell? ⟨w.heap.size, 0, none⟩ = some (.slice xa xb.length xcap) := by rw [← hW0]; clear hW0; go_simp
  have d6 : W0.cell? ⟨w.heap.size, 1, none⟩ = some (.int .i64 xsure) := by rw [← hW0]; clear hW0; go_simp
  have t0 : Turn (fun k => k = pb) w W0 := by
    rw [← hW0]
    exact ((((turn_head w pb 2 _).alloc _).alloc _).drew 1)
  have p0 : W0.heap[pb]? = some (.cells #[.map (some mb), nv, .int .i64 (left S + ((cb.length : Int) - (xb.length : Int))), .int .i64 u, .bool S.down] 60 (0, 0)) := by
    rw [← hW0]
    show ((((w.setCell _ _).alloc _).alloc _)).heap[pb]? = _
    rw [Below.heap_alloc _ _ _ (by simp [World.setCell]; omega), Below.heap_alloc _ _ _ (by simp [World.setCell]; omega), hset.out]
    rfl
  have m0 : MapHas W0.drew mb cs := (h.map.kept (t0.block mb h.lt.2.1 h.base.2.2.1))
  obtain ⟨w', hr, m1, hg⟩ := m0.store h.upc ⟨⟨n, xb, xsure⟩, .slice xa xb.length xcap⟩ hn (by unfold maxLen; omega)
  have hr' : (Instr.mapUpdate 58 (.map (some mb)) (.string (bs n)) (.agg #[.slice xa xb.length xcap, .int .i64 xsure])).run Try.prog W0.drew = .ok () w' := hr
  clear hr
  have HW := Lib.hid hW0; clear hW0
  have HP := Lib.hid p0; clear p0
  go_region
  have p1 : w'.heap[pb]? = W0.heap[pb]? := hg.block pb (by have := t0.size; show pb < W0.heap.size; omega) (fun e => h.base.2.2.1 (by injection e with e; exact e.symm))
  have t1 : Turn (core pb mb nv) w w' := (t0.mono (fun k _ hk => Or.inl hk)).grown (w' := w') (row := some mb) ⟨hg.os, hg.tape, hg.output, hg.size, hg.block⟩ (fun k hk => by cases hk; exact Or.inl (Or.inr (Or.inl rfl)))
  have hkeys : (ins Cf.nm (wo Cf.nm cs n) ⟨⟨n, xb, xsure⟩, .slice xa xb.length xcap⟩).map Cf.nm = cs.map Cf.nm := keys_again h.upc hc rfl
  go_end0
  refine ⟨rfl, h.putEnd hx ?_ m1 ?_ t1 (Or.inl rfl), t1⟩
  · rw [p1, HP.out, HL.out]
  · show w'.ownsRow B 9 1 nv ((ins Cf.nm (wo Cf.nm cs n) _).map Cf.nm).length (strs ((ins Cf.nm (wo Cf.nm cs n) _).map Cf.nm))
    rw [hkeys]
    refine owns_kept h.names (fun g hgn => ?_)
    have hgl := (h.lt.2.2 g hgn).2
    rw [hg.block g (by have := t0.size; show g < W0.heap.size; omega) (fun e => h.base.2.2.2.2.1 (by injection e with e; rw [← e]; exact hgn))]
    exact t0.block g hgl (fun e => h.base.2.2.2.1 (e ▸ hgn))

set_option maxHeartbeats 2000000 in
theorem put_new {B pb mb : Nat} {nv : Value} {u : Int} {cs : List Cf} {S : St} {w : World} {n : List UInt8} {xb : List UInt8} {xsure : Nat} {xa : Option Addr} {xcap : Nat}
    (h : Dk B w pb mb nv u cs S (fun m => m = n)) (hx : PutIn B w pb mb nv cs S ⟨⟨n, xb, xsure⟩, .slice xa xb.length xcap⟩) (hc : ∀ c ∈ cs, c.nm ≠ n)
    (hn : n.length ≤ maxLen) (hxb : xb.length ≤ 1048576) (hcs : cs.length < 1099511627776) :
    Calls Try.prog 35 #[.pointer (some ⟨pb, 0, none⟩), .string (bs n), .agg #[.slice xa xb.length xcap, .int .i64 xsure]] w (PutPost B pb mb nv u cs S ⟨⟨n, xb, xsure⟩, .slice xa xb.length xcap⟩ w) := by
  obtain ⟨c0, c1, c2, c3, c4, fz⟩ := h.cells
  obtain ⟨i1, i2, i3, i4⟩ := h.ints
  have f2 := fz 2
  have f1 := fz 1
  have hlt := h.lt.1
  have hleft : left (puts S ⟨n, xb, xsure⟩) = left S + -(xb.length : Int) := by
    have e : wo Fl.nm S.fs n = S.fs := wo_id (fun f hf => by
      rw [← h.fs, List.mem_map] at hf
      obtain ⟨c, hcc, rfl⟩ := hf
      exact hc c hcc)
    simp only [left, puts, total_ins, e]
    omega
  have HL := Lib.hid hleft; clear hleft
  have hpos : pos id (cs.map Cf.nm) n ≤ (cs.map Cf.nm).length := pos_le _ _
  have hlen : (cs.map Cf.nm).length < 1099511627776 := by simpa using hcs
  have hup : Up id (cs.map Cf.nm) := (up_map (k := id) Cf.nm cs).2 h.upc
  have HU := Lib.hid hup
  go_enter Try.func35, Try.ntmps35
  go_wp2_with (first
    | (at_lookup; refine wpList_lookup_run _ rfl _ _ _ _ rfl _ _ rfl rfl (.tuple #[.agg #[.slice none 0 0, .int .i64 0], .bool false]) (MapHas.look_no (h.map.kept (Below.heap_alloc _ _ _ h.lt.2.1)) hc hn).2 ?_)
    | (go_at_call 43; refine (search_any B nv (cs.map Cf.nm) n _ ((h.names.alloc _).alloc _) HU.out hlen).mono ?_; rintro e w1 ⟨q, y, rfl, rfl⟩)
    | fail)
  generalize hW1 : World.alloc _ _ = W1
  have z1 : W1.heap.size = w.heap.size + 3 := by rw [← hW1]; simp
  have t1 : Turn (fun _ => False) w W1 := by
    rw [← hW1]
    exact ((((Turn.refl _ w).alloc _).alloc _).drew q).alloc _
  have v1 : W1.heap[w.heap.size + 1 + 1]? = some (.cells #[.string (bs n)] 9 (0, 0)) := by
    rw [← hW1]
    have := heap_alloc_new (((w.alloc (Obj.cells #[Value.slice xa xb.length xcap, Value.int IntKind.i64 ↑xsure] 64)).alloc (Obj.cells #[Value.slice none 0 0, Value.int IntKind.i64 0] 64)).drewN q) (.cells #[.string (bs n)] 9)
    simpa using this
  have b5 : W1.heap[w.heap.size]? = some (.cells #[.slice xa xb.length xcap, .int .i64 xsure] 64 (0, 0)) := by
    rw [← hW1, Below.heap_alloc _ _ _ (by simp; omega)]
    show ((w.alloc _).alloc _).heap[w.heap.size]? = _
    rw [Below.heap_alloc _ _ _ (by simp)]
    exact heap_alloc_new w _
  have b6 : W1.heap[w.heap.size + 1]? = some (.cells #[.slice none 0 0, .int .i64 0] 64 (0, 0)) := by
    rw [← hW1, Below.heap_alloc _ _ _ (by simp)]
    have := heap_alloc_new (w.alloc (Obj.cells #[Value.slice xa xb.length xcap, Value.int IntKind.i64 ↑xsure] 64)) (Obj.cells #[Value.slice none 0 0, Value.int IntKind.i64 0] 64)
    simpa using this
  have n1 : W1.ownsRow B 9 1 nv (cs.map Cf.nm).length (strs (cs.map Cf.nm)) := owns_kept h.names (fun g hg => t1.block g (h.lt.2.2 g hg).2 (fun f => f))
  clear hW1
  refine (insert_any B nv (cs.map Cf.nm) _ n (w.heap.size + 1 + 1) W1 n1 hpos hlen v1 (fun e => by have := (h.lt.2.2 _ e).2; omega) (by have := h.base.2.2.2.2.2; omega)).mono ?_
  rintro e w2 ⟨nv', rfl, hown, hgrow, hloc⟩
  obtain ⟨na, ncap, hnv⟩ := owns_form hown
  obtain ⟨nl, hnl⟩ : ∃ nl, nl = (cs.map Cf.nm).length + 1 := ⟨_, rfl⟩
  rw [← hnl] at hnv hown
  subst hnv
  have HNL := Lib.hid hnl; clear hnl
  have hnb : ∀ g, nv.ownBlock = some g → g < w.heap.size := fun g hg => (h.lt.2.2 g hg).2
  have k2 : ∀ k, k < W1.heap.size → nv.ownBlock ≠ some k → w2.heap[k]? = W1.heap[k]? := fun k hk hne => hgrow.block k hk (fun e => hne e.symm)
  have pb2 : w2.heap[pb]? = some (.cells #[.map (some mb), nv, .int .i64 (left S), .int .i64 u, .bool S.down] 60 (0, 0)) := by
    rw [k2 pb (by omega) h.base.2.2.2.1, t1.block pb hlt (fun f => f)]; exact h.pblk
  have b52 := (k2 _ (by omega) (fun e => by have := hnb _ e; omega)).trans b5
  have b62 := (k2 _ (by omega) (fun e => by have := hnb _ e; omega)).trans b6
  have m2 : MapHas w2 mb cs := h.map.kept (by rw [k2 mb (by have := h.lt.2.1; omega) h.base.2.2.2.2.1, t1.block mb h.lt.2.1 (fun f => f)])
  have x0 : w2.cell? ⟨pb, 0, none⟩ = some (.map (some mb)) := by rw [cell_of_row w2 pb 0 _ _ (0, 0) pb2]; rfl
  have x1 : w2.cell? ⟨pb, 1, none⟩ = some nv := by rw [cell_of_row w2 pb 1 _ _ (0, 0) pb2]; rfl
  have x2 : w2.cell? ⟨pb, 2, none⟩ = some (.int .i64 (left S)) := by rw [cell_of_row w2 pb 2 _ _ (0, 0) pb2]; rfl
  have y1 : w2.frozen? ⟨pb, 1, none⟩ = false := by simp [World.frozen?, pb2]
  have y2 : w2.frozen? ⟨pb, 2, none⟩ = false := by simp [World.frozen?, pb2]
  have x5 : w2.cell? ⟨w.heap.size, 0, none⟩ = some (.slice xa xb.length xcap) := by rw [cell_of_row w2 _ 0 _ _ (0, 0) b52]; rfl
  have x6 : w2.cell? ⟨w.heap.size, 1, none⟩ = some (.int .i64 xsure) := by rw [cell_of_row w2 _ 1 _ _ (0, 0) b52]; rfl
  have x7 : w2.cell? ⟨w.heap.size + 1, 0, none⟩ = some (.slice none 0 0) := by rw [cell_of_row w2 _ 0 _ _ (0, 0) b62]; rfl
  have hl2 : W1.heap.size ≤ w2.heap.size := hgrow.size
  have PB := Lib.hid pb2; have M2 := Lib.hid m2; have K2 := Lib.hid k2; have OWN := Lib.hid hown; have GR := Lib.hid hgrow; have LOC := Lib.hid hloc; have NB := Lib.hid hnb
  clear pb2 m2 k2 hown hgrow hloc hnb b5 b6 b52 b62 v1 n1 fz
  have Z1 := Lib.hid z1
  have hz : w.heap.size + 3 ≤ w2.heap.size := by omega
  clear z1
  go_wp2
  go_region
  go_wp2
  generalize hW0 : World.drew _ = W0
  have d0 : W0.cell? ⟨pb, 0, none⟩ = some (.map (some mb)) := by rw [← hW0]; clear hW0; go_simp
  have d5 : W0.cell? ⟨w.heap.size, 0, none⟩ = some (.slice xa xb.length xcap) := by rw [← hW0]; clear hW0; go_simp
  have d6 : W0.cell? ⟨w.heap.size, 1, none⟩ = some (.int .i64 xsure) := by rw [← hW0]; clear hW0; go_simp
  have tw2 : Turn (core pb mb nv) w w2 := (t1.mono (fun _ _ f => f.elim)).grown GR.out (fun k hk => Or.inl (Or.inr (Or.inr hk)))
  have tw0 : Turn (fun k => k = pb) w2 W0 := by
    rw [← hW0]
    exact ((turn_head w2 pb 1 _).trans (turn_head _ pb 2 _)).drew 1
  have p0 : W0.heap[pb]? = some (.cells #[.map (some mb), .slice na nl ncap, .int .i64 (left S + -(xb.length : Int)), .int .i64 u, .bool S.down] 60 (0, 0)) := by
    rw [← hW0]
    exact heap_setCell_same _ pb 2 _ _ _ (heap_setCell_same w2 pb 1 _ _ _ PB.out)
  have m0 : MapHas W0.drew mb cs := M2.out.kept (tw0.block mb (by have := h.lt.2.1; omega) h.base.2.2.1)
  obtain ⟨w', hr, m1, hg⟩ := m0.store h.upc ⟨⟨n, xb, xsure⟩, .slice xa xb.length xcap⟩ hn (by unfold maxLen; omega)
  have hr' : (Instr.mapUpdate 58 (.map (some mb)) (.string (bs n)) (.agg #[.slice xa xb.length xcap, .int .i64 xsure])).run Try.prog W0.drew = .ok () w' := hr
  clear hr
  have HW := Lib.hid hW0; clear hW0
  have HP := Lib.hid p0; clear p0
  go_region
  have p1 : w'.heap[pb]? = W0.heap[pb]? := hg.block pb (by have := tw0.size; show pb < W0.heap.size; omega) (fun e => h.base.2.2.1 (by injection e with e; exact e.symm))
  have t2 : Turn (core pb mb nv) w W0 := tw2.trans (tw0.mono (fun k _ hk => Or.inl hk))
  have t3 : Turn (core pb mb nv) w w' := t2.grown (w' := w') (row := some mb) ⟨hg.os, hg.tape, hg.output, hg.size, hg.block⟩ (fun k hk => by cases hk; exact Or.inl (Or.inr (Or.inl rfl)))
  have hkeys : (ins Cf.nm (wo Cf.nm cs n) ⟨⟨n, xb, xsure⟩, .slice xa xb.length xcap⟩).map Cf.nm = (cs.map Cf.nm).take (pos id (cs.map Cf.nm) n) ++ [n] ++ (cs.map Cf.nm).drop (pos id (cs.map Cf.nm) n) := by
    have e1 := map_ins (k := id) Cf.nm cs ⟨⟨n, xb, xsure⟩, .slice xa xb.length xcap⟩
    have e2 := ins_at (k := id) (cs.map Cf.nm) n
    rw [wo_id hc]
    exact e1.trans e2
  have hkl : ((ins Cf.nm (wo Cf.nm cs n) ⟨⟨n, xb, xsure⟩, .slice xa xb.length xcap⟩).map Cf.nm).length = nl := by
    rw [wo_id hc, List.length_map, length_ins, HNL.out, List.length_map]
  have hblk : ∀ g, (Value.slice na nl ncap).ownBlock = some g → nv.ownBlock = some g ∨ w.heap.size ≤ g := fun g hg => by
    rcases LOC.out with e | e
    · exact Or.inl (e ▸ hg)
    · rw [e] at hg; cases hg; right; have := Z1.out; omega
  have hblk2 : (Value.slice na nl ncap).ownBlock = nv.ownBlock ∨ ∃ g, (Value.slice na nl ncap).ownBlock = some g ∧ w.heap.size ≤ g := by
    rcases LOC.out with e | e
    · exact Or.inl e
    · exact Or.inr ⟨_, e, by have := Z1.out; omega⟩
  go_end0
  refine ⟨rfl, .slice na nl ncap, h.putEnd hx ?_ m1 ?_ t3 hblk2, t3, hblk2⟩
  · rw [p1, HP.out, HL.out]
  · show w'.ownsRow B 9 1 _ ((ins Cf.nm (wo Cf.nm cs n) _).map Cf.nm).length (strs ((ins Cf.nm (wo Cf.nm cs n) _).map Cf.nm))
    rw [hkl, hkeys]
    refine owns_kept OWN.out (fun g hgn => ?_)
    have hg2 := (OWN.out.lt g hgn).2
    have hgm : g ≠ mb := fun e => by
      subst e
      rcases hblk g hgn with e | e
      · exact h.base.2.2.2.2.1 e
      · have := h.lt.2.1; omega
    have hgp : g ≠ pb := fun e => by
      subst e
      rcases hblk g hgn with e | e
      · exact h.base.2.2.2.1 e
      · omega
    rw [hg.block g (by have := tw0.size; show g < W0.heap.size; omega) (fun e => hgm (by injection e))]
    exact tw0.block g hg2 hgp

theorem len_le {S : St} (hg : Good S) {f : Fl} (hf : f ∈ S.fs) : f.bt.length ≤ 1048576 := by
  have h1 := len_le_total hf
  have h2 := hg.fits
  have h3 := hg.room
  omega

theorem put_any {B pb mb : Nat} {nv : Value} {u : Int} {cs : List Cf} {S : St} {w : World} {x : Cf} (h : Dk B w pb mb nv u cs S (fun m => m = x.nm)) (hx : PutIn B w pb mb nv cs S x) (hcs : cs.length < 1099511627776) :
    Calls Try.prog 35 #[.pointer (some ⟨pb, 0, none⟩), .string (bs x.nm), x.ent] w (PutPost B pb mb nv u cs S x w) := by
  obtain ⟨xa, xcap, hv⟩ := owns_form hx.row
  have hn : x.nm.length ≤ maxLen := by have := hx.right.2; unfold maxLen; omega
  have hxb : x.f.bt.length ≤ 1048576 := by
    have h1 : x.f ∈ (puts S x.f).fs := mem_ins.2 (Or.inl rfl)
    have h2 := len_le_total h1
    have h3 := hx.fits
    have h4 := h.good.room
    omega
  obtain ⟨⟨n, xb, xsure⟩, v⟩ := x
  dsimp only at hv hxb
  subst hv
  by_cases hc : ∃ c ∈ cs, c.nm = n
  · obtain ⟨c, hc, e⟩ := hc
    obtain ⟨ca, ccap, hcv⟩ := h.form c hc
    have hcb := len_le h.good (by rw [← h.fs]; exact List.mem_map_of_mem (f := Cf.f) hc)
    obtain ⟨⟨n', cb, csure⟩, v⟩ := c
    dsimp only at hcv hcb
    subst hcv
    obtain rfl : n' = n := e
    exact (put_there h hx hc hn hxb hcb hcs).mono fun e w' ⟨a1, a2, a3⟩ => ⟨a1, nv, a2, a3, Or.inl rfl⟩
  · exact put_new h hx (fun c hcc e => hc ⟨c, hcc, e⟩) hn hxb hcs
end Go.Proofs.Ytmpipfhlicfagaa
