/- The law KeydirMap, walked. -/
import Derived.Test.YtbjginlhgedjdaaDoorKhomes
import Derived.Test.YtbjginlhgedjdaaDoorKwant
namespace Go.Proofs.YtbjginlhgedjdaaDoor.K
open Go.RowKit
set_option linter.unusedVariables false

/-- A directory and a law's map, as far as a script has gone. -/
structure RunM (Pd : Nat → World → Nat → (Nat → Prop) → Dr → Prop) (B : Nat) (w1 w : World) (pb mb n : Nat) (S : Dr) : Prop where
  dir : ∃ F, Pd B w pb F S ∧ ¬ F mb
  mul : Ml B w
  fit : Fit n S
  bel : Below w1.heap.size w1 w
  le : w1.heap.size ≤ B
  map : MapHas w mb (sre S)
  mbl : w1.heap.size ≤ mb ∧ B ≤ mb
section
variable {Pd : Nat → World → Nat → (Nat → Prop) → Dr → Prop} {B pb mb n m : Nat} {w1 w w' : World} {S S' : Dr} {v : Value} {e : Ending}
theorem RunM.old (C : DirC Pd) (h : RunM Pd B w1 w pb mb n S) (hb : Below w.heap.size w w') : RunM Pd B w1 w' pb mb n S := by
  obtain ⟨F, hd, hn⟩ := h.dir
  exact ⟨⟨F, C.kept hd (Turn.of_below (fun _ => False) hb (Nat.le_refl _)) (fun _ _ _ f => f), hn⟩, Ml.new h.mul hb, h.fit, h.bel.trans (hb.mono h.bel.size), h.le, h.map.kept (hb.block _ h.map.lt), h.mbl⟩
/-- .. with a variable's block, that is no part of it. -/
structure RunO (Pd : Nat → World → Nat → (Nat → Prop) → Dr → Prop) (B : Nat) (w1 w : World) (pb mb ob n : Nat) (X : Obj) (S : Dr) : Prop where
  dir : ∃ F, Pd B w pb F S ∧ ¬ F mb ∧ ¬ F ob
  mul : Ml B w
  fit : Fit n S
  bel : Below w1.heap.size w1 w
  le : w1.heap.size ≤ B
  map : MapHas w mb (sre S)
  mbl : w1.heap.size ≤ mb ∧ B ≤ mb
  box : w.heap[ob]? = some X
  ne : ob ≠ mb
theorem RunM.toO (C : DirC Pd) (h : RunM Pd B w1 w pb mb n S) (hb : Below w.heap.size w w') {ob : Nat} {X : Obj} (hX : w'.heap[ob]? = some X) (ho : w.heap.size ≤ ob) : RunO Pd B w1 w' pb mb ob n X S := by
  obtain ⟨F, hd, hn⟩ := h.dir
  have hl := h.map.lt
  exact ⟨⟨F, C.kept hd (Turn.of_below (fun _ => False) hb (Nat.le_refl _)) (fun _ _ _ f => f), hn, fun hf => by have := (C.lt hd _ hf).2; omega⟩, Ml.new h.mul hb, h.fit, h.bel.trans (hb.mono h.bel.size), h.le, h.map.kept (hb.block _ hl), h.mbl, hX, by omega⟩
theorem RunO.toM {ob : Nat} {X : Obj} (h : RunO Pd B w1 w pb mb ob n X S) : RunM Pd B w1 w pb mb n S := by
  obtain ⟨F, hd, hn, _⟩ := h.dir
  exact ⟨⟨F, hd, hn⟩, h.mul, h.fit, h.bel, h.le, h.map, h.mbl⟩
theorem RunO.old (C : DirC Pd) {ob : Nat} {X : Obj} (h : RunO Pd B w1 w pb mb ob n X S) (hb : Below w.heap.size w w') : RunO Pd B w1 w' pb mb ob n X S := by
  obtain ⟨F, hd, hn, hn2⟩ := h.dir
  have hl := h.map.lt
  have hol : ob < w.heap.size := (Array.getElem?_eq_some_iff.1 h.box).1
  exact ⟨⟨F, C.kept hd (Turn.of_below (fun _ => False) hb (Nat.le_refl _)) (fun _ _ _ f => f), hn, hn2⟩, Ml.new h.mul hb, h.fit, h.bel.trans (hb.mono h.bel.size), h.le, h.map.kept (hb.block _ hl), h.mbl, (hb.block _ hol).trans h.box, h.ne⟩
/-- The directory has turned, the map not yet. -/
structure Half (Pd : Nat → World → Nat → (Nat → Prop) → Dr → Prop) (B : Nat) (w1 w : World) (pb mb ob n : Nat) (X : Obj) (S S' : Dr) : Prop where
  dir : ∃ F, Pd B w pb F S' ∧ ¬ F mb ∧ ¬ F ob
  mul : Ml B w
  fit : Fit n S'
  bel : Below w1.heap.size w1 w
  le : w1.heap.size ≤ B
  map : MapHas w mb (sre S)
  up : Up Prod.fst (sre S)
  mbl : w1.heap.size ≤ mb ∧ B ≤ mb
  box : w.heap[ob]? = some X
  ne : ob ≠ mb
theorem RunO.step (C : DirC Pd) {ob : Nat} {X : Obj} {F : Nat → Prop} (h : RunO Pd B w1 w pb mb ob n X S) (hd : Pd B w pb F S) (hn : ¬ F mb ∧ ¬ F ob) (hp : PdPost Pd B w pb F S' v e w') (hf : Fit m S') : Half Pd B w1 w' pb mb ob m X S S' := by
  obtain ⟨_, F', h1, h2, t⟩ := hp
  have hF := C.lt hd
  have hml := h.map.lt
  have hol : ob < w.heap.size := (Array.getElem?_eq_some_iff.1 h.box).1
  refine ⟨⟨F', h1, fun hf' => ?_, fun hf' => ?_⟩, Ml.turn h.mul t (fun k hk => (hF k hk).1), hf, h.bel.trans (t.below (fun k hk => Nat.le_trans h.le (hF k hk).1) h.bel.size), h.le, h.map.kept (t.block _ hml hn.1), sre_up h.fit.ok.inv.one, h.mbl, (t.block _ hol hn.2).trans h.box, h.ne⟩
  · rcases h2 _ hf' with g | g
    · exact hn.1 g
    · omega
  · rcases h2 _ hf' with g | g
    · exact hn.2 g
    · omega
theorem Half.done (C : DirC Pd) {ob : Nat} {X : Obj} (h : Half Pd B w1 w pb mb ob n X S S') (hg : w.grownBy w' (some mb)) (hm : MapHas w' mb (sre S')) : RunO Pd B w1 w' pb mb ob n X S' := by
  obtain ⟨F, hd, hn, hn2⟩ := h.dir
  have hol : ob < w.heap.size := (Array.getElem?_eq_some_iff.1 h.box).1
  have t : Turn (fun k => k = mb) w w' := (Turn.refl _ w).grown hg (fun k hk => Or.inl (Option.some.inj hk).symm)
  exact ⟨⟨F, C.kept hd t (fun k _ hf e => hn (e ▸ hf)), hn, hn2⟩, Ml.turn h.mul t (fun k hk => by rw [hk]; exact h.mbl.2), h.fit, h.bel.trans (t.below (fun k hk => by rw [hk]; exact h.mbl.1) h.bel.size), h.le, hm, h.mbl, (t.block _ hol h.ne).trans h.box, h.ne⟩
/-- The map is turned, too. -/
theorem Half.drop (C : DirC Pd) {ob : Nat} {X : Obj} {o : Kop} (h : Half Pd B w1 w pb mb ob m X S (stepH S o)) (h4 : o.d = 4) (hf : Fit n S) (hk : o.k.length ≤ 100) :
    ∃ w', (∀ ty, (Builtin.delete_ #[51, 9] ty #[.map (some mb), .string (bs o.k)]).run Tryd.prog w = .ok (.tuple #[]) w') ∧ RunO Pd B w1 w' pb mb ob m X (stepH S o) := by
  obtain ⟨w', hr, m4, hg⟩ := h.map.dropAny h.up o.k (by unfold maxLen; omega) 0
  refine ⟨w', fun ty => hr, h.done C hg ?_⟩
  have hS4 : stepH S o = delS S o.k := by unfold stepH; rw [if_pos h4]
  rw [hS4, (fit_del hf o.k).2]
  exact m4
theorem Half.store (C : DirC Pd) {ob : Nat} {X : Obj} {o : Kop} (h : Half Pd B w1 w pb mb ob m X S (stepH S o)) (h4 : o.d ≠ 4) (hf : Fit n S) (hn : n < 150) (hk : o.k.length ≤ 100) :
    ∃ w', (Instr.mapUpdate 51 (.map (some mb)) (.string (bs o.k)) (locV o.l)).run Tryd.prog w = .ok () w' ∧ RunO Pd B w1 w' pb mb ob m X (stepH S o) := by
  have hc : (sre S).length ≤ 150 := by rw [sre_len]; have := hf.cn; omega
  obtain ⟨w', hr, m4, hg⟩ := h.map.store h.up (o.k, o.l) (by show o.k.length ≤ _; unfold maxLen; omega) (by unfold maxLen; omega)
  refine ⟨w', hr, h.done C hg ?_⟩
  have hS4 : stepH S o = putS S o.k o.l := by unfold stepH; rw [if_neg h4]
  rw [hS4, (fit_put hf hn (by omega) o.l).2]
  exact m4
end

theorem MapHas.look {w : World} {mb n : Nat} {S : Dr} {k : List UInt8} (h : MapHas w mb (sre S)) (hf : Fit n S) (hk : k.length ≤ 1000) :
    (Instr.lookup 51 (.map (some mb)) (.string (bs k)) true).run Tryd.prog w = .ok (.tuple #[locV (locOf S k), .bool (hasB S k)]) w := by
  rcases has_cases S k with ⟨hb, i, v, hi⟩ | ⟨hb, hno⟩
  · rw [hb, locOf_is hf.ok.inv.one hi]
    exact (h.look_yes (c := (k, v)) (sre_mem.2 ⟨i, hi⟩) (by show k.length ≤ _; unfold maxLen; omega)).2
  · rw [hb, locOf_no hno]
    exact (h.look_no (fun c hc e => by obtain ⟨k', v⟩ := c; obtain ⟨i, hi⟩ := sre_mem.1 hc; exact hno i v (e ▸ hi)) (by unfold maxLen; omega)).2
theorem MapHas.len {w : World} {mb : Nat} {S : Dr} (h : MapHas w mb (sre S)) (ty : TypeId) :
    (Builtin.len_ #[51] ty #[.map (some mb)]).run Tryd.prog w = .ok (.int .i64 ((cnt S : Nat) : Int)) w := by
  obtain ⟨D, hD, hs, _⟩ := h
  rw [hD.len Tryd.underlying51 ty, hs, sre_len]
theorem MapHas.lenE {w : World} {mb : Nat} {E : List (Ent Lc)} (h : MapHas w mb E) (ty : TypeId) :
    (Builtin.len_ #[51] ty #[.map (some mb)]).run Tryd.prog w = .ok (.int .i64 ((E.length : Nat) : Int)) w := by
  obtain ⟨D, hD, hs, _⟩ := h
  rw [hD.len Tryd.underlying51 ty, hs]
theorem wpList_len_run {P : Program} (w : World) {ops : Array Oper} {rest : List Oper} {o : Oper} {a : Act} {Q : Exit → Act → World → Prop}
    (hg : o.guard = none) (m : Operand) (t : TypeId) (hop : o.op = Op.call { callee := Callee.builtin Builtin.len, args := #[m], argTypes := #[t] }) (mv v : Value) (hm : a.eval m = mv)
    (hr : ∀ ty, (Builtin.len_ #[t] ty #[mv]).run P w = .ok v w) (hK : wpList P ops Q rest (a.put o.dst v) w) : wpList P ops Q (o :: rest) a w := by
  refine wpList_plain hg fun K' hK' => ?_
  unfold Oper.wp
  simp [execOp, hop, resolve, invoke, builtin, hm, hr, Result.andThen]
  exact hK' _ _ hK
theorem lflat_at : ∀ (l : List Lc) (j : Nat) (x : Lc), l[j]? = some x → (lflat l)[j * 4]? = some (.int .i64 x.seg) ∧ (lflat l)[j * 4 + 1]? = some (.int .i64 x.off) ∧ (lflat l)[j * 4 + 2]? = some (.int .i64 x.len) ∧ (lflat l)[j * 4 + 3]? = some (.int .u64 x.seq)
  | [], j, x, h => by simp at h
  | y :: r, 0, x, h => by
    obtain rfl : y = x := by simpa using h
    exact ⟨rfl, rfl, rfl, rfl⟩
  | y :: r, j + 1, x, h => by
    have := lflat_at r j x (by simpa using h)
    rw [show (j + 1) * 4 = j * 4 + 4 by omega, show j * 4 + 4 + 1 = j * 4 + 1 + 4 by omega, show j * 4 + 4 + 2 = j * 4 + 2 + 4 by omega, show j * 4 + 4 + 3 = j * 4 + 3 + 4 by omega]
    exact this
theorem lflat_len : ∀ l : List Lc, (lflat l).length = l.length * 4
  | [] => rfl
  | y :: r => by simp [lflat, lflat_len r]; omega
theorem row_form {w : World} {B : Nat} {e : TypeId} {size : Nat} {v : Value} {n : Nat} {xs : List Value} (h : w.ownsRow B e size v n xs) : ∃ a c, v = .slice a n c ∧
    (0 < n → ∃ g, a = some ⟨g, 0, none⟩ ∧ g < w.heap.size ∧ w.ownsRow B e size (.slice (some ⟨g, 0, none⟩) n c) n xs) := by
  have h' := h
  rcases h' with ⟨_, ⟨rfl, rfl⟩ | ⟨g, cap, cur, rfl, _, hg, _⟩⟩
  · exact ⟨none, 0, rfl, fun h => by omega⟩
  · exact ⟨_, cap, rfl, fun _ => ⟨g, rfl, (Array.getElem?_eq_some_iff.1 hg).1, h⟩⟩
/-- Keys, and what is told of them, in two rows. -/
theorem kv_form {w : World} {B : Nat} {kv lv : Value} {E : List (Ent Lc)} (hs : Strs w B kv (E.map Prod.fst)) (hl : Locs w B lv (E.map Prod.snd)) : ∃ a c a' c', kv = .slice a E.length c ∧ lv = .slice a' E.length c' ∧
    ∀ j s, E[j]? = some s → ∃ g g', a = some ⟨g, 0, none⟩ ∧ a' = some ⟨g', 0, none⟩ ∧ g < w.heap.size ∧ g' < w.heap.size ∧ w.cell? ⟨g, j, none⟩ = some (.string (bs s.1)) ∧
      w.cell? ⟨g', j * 4, none⟩ = some (.int .i64 s.2.seg) ∧ w.cell? ⟨g', j * 4 + 1, none⟩ = some (.int .i64 s.2.off) ∧ w.cell? ⟨g', j * 4 + 2, none⟩ = some (.int .i64 s.2.len) ∧ w.cell? ⟨g', j * 4 + 3, none⟩ = some (.int .u64 s.2.seq) := by
  unfold Strs at hs; unfold Locs at hl
  rw [List.length_map] at hs hl
  obtain ⟨a, c, rfl, h1⟩ := row_form hs
  obtain ⟨a', c', rfl, h2⟩ := row_form hl
  refine ⟨a, c, a', c', rfl, rfl, fun j s hj => ?_⟩
  have hjl := (List.getElem?_eq_some_iff.1 hj).1
  obtain ⟨g, rfl, hg, q1⟩ := h1 (by omega)
  obtain ⟨g', rfl, hg', q2⟩ := h2 (by omega)
  obtain ⟨f0, f1, f2, f3⟩ := lflat_at (E.map Prod.snd) j s.2 (by rw [List.getElem?_map, hj]; rfl)
  refine ⟨g, g', rfl, rfl, hg, hg', ?_, ?_, ?_, ?_, ?_⟩
  · rw [q1.cellAt j (by omega), strs_at, List.getElem?_map, hj]; rfl
  · rw [q2.cellAt _ (by omega)]; exact f0
  · rw [q2.cellAt _ (by omega)]; exact f1
  · rw [q2.cellAt _ (by omega)]; exact f2
  · rw [q2.cellAt _ (by omega)]; exact f3

theorem map_new (w : World) : MapHas (w.alloc (.map #[] 0)) w.heap.size (sre (none' 8 : Dr)) := by
  have he : sre (none' 8 : Dr) = [] := List.length_eq_zero_iff.1 (by rw [sre_len, cnt_none'])
  rw [he]
  exact ⟨.map [], World.ownsMap_made w _ _ _, rfl, fun c hc => (by cases hc), fun n hn => (by simp [Maps.has] at hn)⟩

set_option maxRecDepth 100000 in
set_option maxHeartbeats 2000000 in
theorem map_walk {Pd : Nat → World → Nat → (Nat → Prop) → Dr → Prop} (C : DirC Pd) (l : List Kop) (a : Option Addr) (cap : Nat) (w : World) (hT : Ml w.heap.size w) (hl : l.length ≤ 9223372036854775807) (hK : KopsIn w a l) (hf : ∀ o ∈ l, o.fit) :
    Calls Tryd.prog 4 #[.slice a l.length cap] w fun e w' => e = .returned (.bool true) ∧ Below w.heap.size w w' := by
  have HC := Lib.hid C; have HT := Lib.hid hT; have HK := Lib.hid hK; have HF := Lib.hid hf
  obtain ⟨L, hL⟩ : ∃ L, L = l.length := ⟨_, rfl⟩
  have HLI := Lib.hid (fun w1 hb => light_any l a cap w1 w hl hK hf hb)
  rw [← hL] at hl HLI ⊢
  have HL := Lib.hid hL
  clear C hT hK hf hL
  go_enter Tryd.func4, Tryd.ntmps4
  go_wp2_with fail
  refine (awakeK_any HC.out w HT.out).mono ?_
  rintro e w1 ⟨rfl, b1⟩
  have B1 := Lib.hid b1
  clear b1
  go_wp2_with fail
  refine (HLI.out w1 B1.out).mono ?_
  rintro e w2 ⟨b, hbs, rfl, rfl⟩
  have HBS := Lib.hid hbs
  clear hbs
  go_wp2_with fail
  have M1 := Lib.hid (Ml.new HT.out B1.out)
  refine (HC.out.new w1 (Ml.kept M1.out rfl B1.out.size)).mono ?_
  rintro e w3 ⟨pb, F, rfl, h3, b3⟩
  have H3 := Lib.hid h3; have B3 := Lib.hid b3
  clear h3 b3
  cases b with
  | false =>
    go_wp2_with fail
    go_ret
    exact ⟨rfl, B1.out.trans (B3.out.mono B1.out.size)⟩
  | true =>
    obtain ⟨hs1, hs2⟩ := HBS.out rfl
    rw [← HL.out] at hs1
    have HS2 := Lib.hid hs2
    clear hs2
    have hmm := @run_makeMap Tryd.prog
    go_wp2_with fail
    have hb4 : Below w3.heap.size w3 (w3.alloc (.map #[] 0)) := (Below.refl _ _).alloc (Nat.le_refl _) _
    have hR0 : RunM Pd w1.heap.size w1 (w3.alloc (.map #[] 0)) pb w3.heap.size 0 (none' 8) := by
      have hFl := HC.out.lt H3.out
      exact ⟨⟨F, HC.out.kept H3.out (Turn.of_below (fun _ => False) hb4 (Nat.le_refl _)) (fun _ _ _ f => f), fun hf => by have := (hFl _ hf).2; omega⟩, Ml.new (Ml.new (Ml.kept M1.out rfl B1.out.size) B3.out) hb4, fit_new, B3.out.trans (hb4.mono B3.out.size), Nat.le_refl _, map_new w3, ⟨B3.out.size, B3.out.size⟩⟩
    generalize w3.alloc (.map #[] 0) = w4 at *
    obtain ⟨mb, hmb⟩ : ∃ mb, mb = w3.heap.size := ⟨_, rfl⟩
    rw [← hmb] at hR0 ⊢
    clear hmb hb4
    go_loopg [7] L (fun g it wr => ∃ (i : Nat) (S : Dr), i + g = L ∧ it = .int .i64 i ∧ RunM Pd w1.heap.size w1 wr pb mb i S)
    case atStart => exact ⟨0, _, by omega, rfl, hR0⟩
    case round =>
      obtain ⟨i, S, hi, rfl, hR⟩ := hrel
      by_cases hlt : i < L
      · obtain ⟨o, ho⟩ : ∃ o, l[i]? = some o := ⟨l[i]'(by have := HL.out; omega), List.getElem?_eq_getElem _⟩
        have hom := List.mem_of_getElem? ho
        have hok := HS2.out o hom
        have hod := (HF.out o hom).1
        have hbw := B1.out.trans (hR.bel.mono B1.out.size)
        obtain ⟨b, off, rfl, hbl, c0, c1, c2, c3, c4, c5⟩ := HK.out.at hbw (Nat.le_refl _) i o ho
        have HRR := Lib.hid hR; have HO := Lib.hid ho; have HOM := Lib.hid hom
        obtain ⟨od, hod0⟩ : ∃ od, od = o.d := ⟨_, rfl⟩
        rw [← hod0] at c0
        have HOD := Lib.hid hod0
        clear hod0 hod
        have hba : Below wr.heap.size wr (wr.alloc (.cells #[.int .i64 od, .string (bs o.k), .int .i64 o.l.seg, .int .i64 o.l.off, .int .i64 o.l.len, .int .u64 o.l.seq] 33)) := (Below.refl _ _).alloc (Nat.le_refl _) _
        have hR4 := hR.toO HC.out hba (heap_alloc_new wr (.cells #[.int .i64 od, .string (bs o.k), .int .i64 o.l.seg, .int .i64 o.l.off, .int .i64 o.l.len, .int .u64 o.l.seq] 33)) (Nat.le_refl _)
        have hlk := hR4.map.look hR.fit (k := o.k) (by omega)
        simp only [locV] at hlk
        have HR4 := Lib.hid hR4
        clear hR ho hom hR0 hbw hR4 hba
        have HFN := Lib.hid (fit_stepH HRR.out.fit (by omega) hok)
        obtain ⟨ob, hob⟩ : ∃ ob, ob = wr.heap.size := ⟨_, rfl⟩
        by_cases h4 : od = 4
        · subst h4
          have hS4 := Lib.hid (show stepH S o = delS S o.k by unfold stepH; rw [if_pos HOD.out.symm])
          go_wp2_with (at_lookup; refine wpList_lookup_run _ rfl _ _ _ _ rfl _ _ rfl rfl _ hlk ?_)
          clear hlk
          rw [← hob] at HR4 ⊢
          have hb5 := (Below.refl (wr.alloc (.cells #[.int .i64 4, .string (bs o.k), .int .i64 o.l.seg, .int .i64 o.l.off, .int .i64 o.l.len, .int .u64 o.l.seq] 33)).heap.size (wr.alloc (.cells #[.int .i64 4, .string (bs o.k), .int .i64 o.l.seg, .int .i64 o.l.off, .int .i64 o.l.len, .int .u64 o.l.seq] 33))).alloc (Nat.le_refl _) (.cells #[.int .i64 (locOf S o.k).seg, .int .i64 (locOf S o.k).off, .int .i64 (locOf S o.k).len, .int .u64 (locOf S o.k).seq] 31)
          have HR6 := Lib.hid (HR4.out.old HC.out hb5)
          generalize hW6 : World.alloc (World.alloc _ _) _ = w6 at *
          clear hb5 hW6 HR4 hob
          obtain ⟨Fd, hd, hnd⟩ := HR6.out.dir
          refine (HC.out.del hd HR6.out.mul HR6.out.fit (k := o.k) (by omega)).mono ?_
          rintro e w7 hp
          obtain rfl := hp.1
          rw [← hS4.out] at hp
          have H7 := HR6.out.step HC.out hd hnd hp HFN.out
          have hcl := fun t => cell_of_row w7 ob t _ _ (0, 0) H7.box
          have e1 := hcl 1
          simp only [List.getElem?_toArray, List.getElem?_cons_succ, List.getElem?_cons_zero] at e1
          obtain ⟨w8, hr8, h8⟩ := H7.drop HC.out HOD.out.symm HRR.out.fit hok
          have HD8 := Lib.hid hr8
          have HR8 := Lib.hid h8
          clear hp hd hnd hcl H7 hr8 h8 HR6
          obtain ⟨S2, hS2⟩ : ∃ S2, S2 = stepH S o := ⟨_, rfl⟩
          rw [← hS2] at HR8 hS4 HFN
          have HS2' := Lib.hid hS2
          clear hS2
          have hcl := fun t => cell_of_row w8 ob t _ _ (0, 0) HR8.out.box
          have e81 := hcl 1
          simp only [List.getElem?_toArray, List.getElem?_cons_succ, List.getElem?_cons_zero] at e81
          clear hcl
          obtain ⟨Fd, hd, hnd⟩ := HR8.out.dir
          have HGET := Lib.hid (HC.out.get hd HR8.out.mul HR8.out.fit (k := o.k) (by omega))
          have HLOOK := Lib.hid (fun W (hW : MapHas W mb (sre S2)) => hW.look HR8.out.fit (k := o.k) (by omega))
          clear hd hnd
          generalize locOf S2 o.k = lq at HGET HLOOK
          generalize hasB S2 o.k = bq at HGET HLOOK
          go_wp2_with (at_delete; refine wpList_delete_run _ rfl _ _ _ _ rfl _ _ rfl rfl w8 HD8.out ?_)
          refine HGET.out.mono ?_
          rintro e w9 ⟨rfl, b9⟩
          have HR9 := Lib.hid (HR8.out.old HC.out b9)
          clear b9 e81 HGET HD8 HR8 e1
          have hba := (Below.refl w9.heap.size w9).alloc (Nat.le_refl _) (.cells #[.int .i64 lq.seg, .int .i64 lq.off, .int .i64 lq.len, .int .u64 lq.seq] 31)
          have y1 := heap_alloc_new w9 (.cells #[.int .i64 lq.seg, .int .i64 lq.off, .int .i64 lq.len, .int .u64 lq.seq] 31)
          have HRA := Lib.hid (HR9.out.old HC.out hba)
          have hcl := fun t => cell_of_row _ ob t _ _ (0, 0) HRA.out.box
          have e1 := hcl 1
          simp only [List.getElem?_toArray, List.getElem?_cons_succ, List.getElem?_cons_zero] at e1
          have hlk := HLOOK.out _ HRA.out.map
          clear hcl hba
          simp only [locV] at hlk ⊢
          have HY1 := Lib.hid y1
          clear y1
          go_wp2_with (at_lookup; refine wpList_lookup_run _ rfl _ _ _ _ rfl _ _ rfl rfl _ hlk ?_)
          have hbb := ((Below.refl w9.heap.size w9).alloc (Nat.le_refl _) (.cells #[.int .i64 lq.seg, .int .i64 lq.off, .int .i64 lq.len, .int .u64 lq.seq] 31)).alloc (by simp) (.cells #[.int .i64 lq.seg, .int .i64 lq.off, .int .i64 lq.len, .int .u64 lq.seq] 31)
          have HRB := Lib.hid ((HR9.out.old HC.out hbb).toM)
          clear hbb HRA HY1 e1 hlk HR9
          generalize World.alloc (World.alloc _ _) _ = wB at *
          obtain ⟨Fd, hd, hnd⟩ := HRB.out.dir
          have HLEN := Lib.hid (HC.out.len hd HRB.out.fit)
          have hcn := HRB.out.fit.cn
          have hle := Lib.hid HRB.out.fit.ok.half
          have hfw := HRB.out.fit.few
          clear hd hnd
          generalize hN : cnt S2 = N at *
          have HN := Lib.hid hN
          clear hN
          refine HLEN.out.mono ?_
          rintro e wC ⟨rfl, bC⟩
          have HRC := Lib.hid (HRB.out.old HC.out bC)
          have hml := HRC.out.map.len 3
          obtain ⟨Fd, hd, hnd⟩ := HRC.out.dir
          have HLEN2 := Lib.hid (HC.out.len hd HRC.out.fit)
          rw [HN.out] at hml HLEN2
          clear HRB hd hnd bC HLEN
          go_wp2_with fail
          refine HLEN2.out.mono ?_
          rintro e wD ⟨rfl, bD⟩
          have HRD := Lib.hid (HRC.out.old HC.out bD)
          clear bD HLEN2 HRC hml
          obtain ⟨Fd, hd, hnd⟩ := HRD.out.dir
          have HCAP := Lib.hid (HC.out.cap hd HRD.out.fit)
          clear hd hnd
          go_wp2_with fail
          have HLP : Hid (S2.length = S2.length) := Lib.hid rfl
          have HCAP2 := HCAP
          generalize S2.length = M at HCAP hle hfw
          have hle' := hle.out
          clear HLP HCAP2 hle
          refine HCAP.out.mono ?_
          rintro e wE ⟨rfl, bE⟩
          have HRE := Lib.hid (HRD.out.old HC.out bE)
          clear bE HRD HCAP
          go_wp2_with fail
          go_roundg (gk - 1)
          case measure => omega
          case rel => exact ⟨i + 1, S2, by omega, by go_num, HRE.out⟩
        · have hne4 : o.d ≠ 4 := fun e => h4 (HOD.out.trans e)
          have hS4 := Lib.hid (show stepH S o = putS S o.k o.l by unfold stepH; rw [if_neg hne4])
          have HN4 := Lib.hid hne4
          clear hne4
          have h4' : (od == 4) = false := by rw [beq_eq_false_iff_ne]; exact h4
          have hin : i < 150 := by omega
          have HI := Lib.hid hin
          go_wp2_with (at_lookup; refine wpList_lookup_run _ rfl _ _ _ _ rfl _ _ rfl rfl _ hlk ?_)
          clear hlk
          rw [← hob] at HR4 ⊢
          have hb5 := (Below.refl (wr.alloc (.cells #[.int .i64 od, .string (bs o.k), .int .i64 o.l.seg, .int .i64 o.l.off, .int .i64 o.l.len, .int .u64 o.l.seq] 33)).heap.size (wr.alloc (.cells #[.int .i64 od, .string (bs o.k), .int .i64 o.l.seg, .int .i64 o.l.off, .int .i64 o.l.len, .int .u64 o.l.seq] 33))).alloc (Nat.le_refl _) (.cells #[.int .i64 (locOf S o.k).seg, .int .i64 (locOf S o.k).off, .int .i64 (locOf S o.k).len, .int .u64 (locOf S o.k).seq] 31)
          have HR6 := Lib.hid (HR4.out.old HC.out hb5)
          generalize hW6 : World.alloc (World.alloc _ _) _ = w6 at *
          clear hb5 hW6 HR4 hob
          obtain ⟨Fd, hd, hnd⟩ := HR6.out.dir
          refine (HC.out.put hd HR6.out.mul HR6.out.fit HI.out (k := o.k) (by omega) o.l).mono ?_
          rintro e w7 hp
          obtain rfl := hp.1
          rw [← hS4.out] at hp
          have H7 := HR6.out.step HC.out hd hnd hp HFN.out
          have hcl := fun t => cell_of_row w7 ob t _ _ (0, 0) H7.box
          have e1 := hcl 1; have e2 := hcl 2; have e3 := hcl 3; have e4 := hcl 4; have e5 := hcl 5
          simp only [List.getElem?_toArray, List.getElem?_cons_succ, List.getElem?_cons_zero] at e1 e2 e3 e4 e5
          obtain ⟨w8, hr8, h8⟩ := H7.store HC.out HN4.out HRR.out.fit HI.out hok
          simp only [locV] at hr8
          have HR8 := Lib.hid h8
          clear hp hd hnd hcl H7 h8 HR6
          obtain ⟨S2, hS2⟩ : ∃ S2, S2 = stepH S o := ⟨_, rfl⟩
          rw [← hS2] at HR8 hS4 HFN
          have HS2' := Lib.hid hS2
          clear hS2
          have hcl := fun t => cell_of_row w8 ob t _ _ (0, 0) HR8.out.box
          have e81 := hcl 1
          simp only [List.getElem?_toArray, List.getElem?_cons_succ, List.getElem?_cons_zero] at e81
          clear hcl
          obtain ⟨Fd, hd, hnd⟩ := HR8.out.dir
          have HGET := Lib.hid (HC.out.get hd HR8.out.mul HR8.out.fit (k := o.k) (by omega))
          have HLOOK := Lib.hid (fun W (hW : MapHas W mb (sre S2)) => hW.look HR8.out.fit (k := o.k) (by omega))
          clear hd hnd
          generalize locOf S2 o.k = lq at HGET HLOOK
          generalize hasB S2 o.k = bq at HGET HLOOK
          go_wp2_with fail
          refine HGET.out.mono ?_
          rintro e w9 ⟨rfl, b9⟩
          have HR9 := Lib.hid (HR8.out.old HC.out b9)
          clear b9 e81 HGET hr8 HR8 e1 e2 e3 e4 e5
          have hba := (Below.refl w9.heap.size w9).alloc (Nat.le_refl _) (.cells #[.int .i64 lq.seg, .int .i64 lq.off, .int .i64 lq.len, .int .u64 lq.seq] 31)
          have y1 := heap_alloc_new w9 (.cells #[.int .i64 lq.seg, .int .i64 lq.off, .int .i64 lq.len, .int .u64 lq.seq] 31)
          have HRA := Lib.hid (HR9.out.old HC.out hba)
          have hcl := fun t => cell_of_row _ ob t _ _ (0, 0) HRA.out.box
          have e1 := hcl 1
          simp only [List.getElem?_toArray, List.getElem?_cons_succ, List.getElem?_cons_zero] at e1
          have hlk := HLOOK.out _ HRA.out.map
          clear hcl hba
          simp only [locV] at hlk ⊢
          have HY1 := Lib.hid y1
          clear y1
          go_wp2_with (at_lookup; refine wpList_lookup_run _ rfl _ _ _ _ rfl _ _ rfl rfl _ hlk ?_)
          have hbb := ((Below.refl w9.heap.size w9).alloc (Nat.le_refl _) (.cells #[.int .i64 lq.seg, .int .i64 lq.off, .int .i64 lq.len, .int .u64 lq.seq] 31)).alloc (by simp) (.cells #[.int .i64 lq.seg, .int .i64 lq.off, .int .i64 lq.len, .int .u64 lq.seq] 31)
          have HRB := Lib.hid ((HR9.out.old HC.out hbb).toM)
          clear hbb HRA HY1 e1 hlk HR9
          generalize World.alloc (World.alloc _ _) _ = wB at *
          obtain ⟨Fd, hd, hnd⟩ := HRB.out.dir
          have HLEN := Lib.hid (HC.out.len hd HRB.out.fit)
          have hcn := HRB.out.fit.cn
          have hle := Lib.hid HRB.out.fit.ok.half
          have hfw := HRB.out.fit.few
          clear hd hnd
          generalize hN : cnt S2 = N at *
          have HN := Lib.hid hN
          clear hN
          refine HLEN.out.mono ?_
          rintro e wC ⟨rfl, bC⟩
          have HRC := Lib.hid (HRB.out.old HC.out bC)
          have hml := HRC.out.map.len 3
          obtain ⟨Fd, hd, hnd⟩ := HRC.out.dir
          have HLEN2 := Lib.hid (HC.out.len hd HRC.out.fit)
          rw [HN.out] at hml HLEN2
          clear HRB hd hnd bC HLEN
          go_wp2_with fail
          refine HLEN2.out.mono ?_
          rintro e wD ⟨rfl, bD⟩
          have HRD := Lib.hid (HRC.out.old HC.out bD)
          clear bD HLEN2 HRC hml
          obtain ⟨Fd, hd, hnd⟩ := HRD.out.dir
          have HCAP := Lib.hid (HC.out.cap hd HRD.out.fit)
          clear hd hnd
          go_wp2_with fail
          have HLP : Hid (S2.length = S2.length) := Lib.hid rfl
          have HCAP2 := HCAP
          generalize S2.length = M at HCAP hle hfw
          have hle' := hle.out
          clear HLP HCAP2 hle
          refine HCAP.out.mono ?_
          rintro e wE ⟨rfl, bE⟩
          have HRE := Lib.hid (HRD.out.old HC.out bE)
          clear bE HRD HCAP
          go_wp2_with fail
          go_roundg (gk - 1)
          case measure => omega
          case rel => exact ⟨i + 1, S2, by omega, by go_num, HRE.out⟩
      · obtain rfl : i = L := by omega
        have hfe : fromE S [] = sre S := by
          unfold fromE
          refine List.filter_eq_self.2 (fun s _ => ?_)
          have : lt s.1 [] = false := by
            cases h : lt s.1 []
            · rfl
            · rw [lt_iff] at h; exact absurd h (List.not_lt_nil _)
          rw [this]; rfl
        obtain ⟨Fd, hd, hnd⟩ := hR.dir
        have HKEYS := Lib.hid (HC.out.keys hd hR.mul hR.fit hs1 (k := []) (by simp))
        rw [hfe] at HKEYS
        have HRR := Lib.hid hR
        clear hR hR0 hd hnd hfe
        have hup : Up Prod.fst (sre S) := sre_up HRR.out.fit.ok.inv.one
        have hkm : ∀ s ∈ sre S, s.1.length ≤ 1000 := HRR.out.fit.keys
        have hmap := HRR.out.map
        have hbel := HRR.out.bel
        have hcs := HRR.out.fit.cn
        rw [← sre_len] at hcs
        generalize sre S = E at *
        have HUP := Lib.hid hup; have HKM := Lib.hid hkm; have HMP := Lib.hid hmap; have HBL := Lib.hid hbel
        obtain ⟨N, hN⟩ : ∃ N, N = E.length := ⟨_, rfl⟩
        rw [← hN] at hcs
        have HN := Lib.hid hN
        clear hup hkm hmap hbel HRR hN
        go_wp2_with fail
        refine (show Calls Tryd.prog 21 #[.pointer (some ⟨pb, 0, none⟩), .string ⟨#[]⟩] wr _ from HKEYS.out).mono ?_
        rintro e w5 ⟨kv, lv, rfl, hs5, hl5, b5⟩
        obtain ⟨ka, kc, la, lc, rfl, rfl, hkv⟩ := kv_form hs5 hl5
        have hml := (HMP.out.kept (b5.block _ HMP.out.lt)).lenE 3
        rw [← HN.out] at hml
        have HMP5 := Lib.hid (HMP.out.kept (b5.block _ HMP.out.lt))
        have HKV := Lib.hid hkv
        have HB5 := Lib.hid (HBL.out.trans (b5.mono HBL.out.size))
        rw [← HN.out]
        clear hs5 hl5 b5 hkv HKEYS HMP
        go_wp2_with fail
        clear hml
        go_loopg [17] N (fun g it wq => ∃ j : Nat, j + g = N ∧ it = .int .i64 j ∧ Below w5.heap.size w5 wq)
        case atStart => exact ⟨0, by omega, rfl, Below.refl _ _⟩
        case round =>
          obtain ⟨j, hj, rfl, bq⟩ := hrel
          by_cases hjN : j < N
          · obtain ⟨s, hs⟩ : ∃ s, E[j]? = some s := ⟨E[j]'(by have := HN.out; omega), List.getElem?_eq_getElem _⟩
            have hsm := List.mem_of_getElem? hs
            have hsl := HKM.out s hsm
            obtain ⟨g, g', rfl, rfl, hg, hg', k0, l0, l1, l2, l3⟩ := HKV.out j s hs
            have HS := Lib.hid hs
            have BQ := Lib.hid bq
            have hba := (Below.refl wr.heap.size wr).alloc (Nat.le_refl _) (.cells #[.int .i64 s.2.seg, .int .i64 s.2.off, .int .i64 s.2.len, .int .u64 s.2.seq] 31)
            have y0 := heap_alloc_new wr (.cells #[.int .i64 s.2.seg, .int .i64 s.2.off, .int .i64 s.2.len, .int .u64 s.2.seq] 31)
            have hlk := ((HMP5.out.kept (bq.block _ HMP5.out.lt)).look_yes hsm (by unfold maxLen; omega)).2
            simp only [locV] at hlk
            rw [← Below.cell (p := ⟨g, j, none⟩) bq hg] at k0
            clear hs hsm hsl bq
            go_wp2_with (at_lookup; refine wpList_lookup_run _ rfl _ _ _ _ rfl _ _ rfl rfl _ hlk ?_)
            have hcl := fun t => cell_of_row _ wr.heap.size t _ _ (0, 0) y0
            have x0 := hcl 0; have x1 := hcl 1; have x2 := hcl 2; have x3 := hcl 3
            simp only [List.getElem?_toArray, List.getElem?_cons_succ, List.getElem?_cons_zero] at x0 x1 x2 x3
            have HBA := Lib.hid (BQ.out.trans (hba.mono BQ.out.size))
            have m0 := (Below.cell (p := ⟨g', j * 4, none⟩) HBA.out hg').trans l0
            have m1 := (Below.cell (p := ⟨g', j * 4 + 1, none⟩) HBA.out hg').trans l1
            have m2 := (Below.cell (p := ⟨g', j * 4 + 2, none⟩) HBA.out hg').trans l2
            have m3 := (Below.cell (p := ⟨g', j * 4 + 3, none⟩) HBA.out hg').trans l3
            have c0 := (Below.cell (p := ⟨g, j, none⟩) hba (Nat.lt_of_lt_of_le hg BQ.out.size)).trans k0
            clear l0 l1 l2 l3 k0 hlk hcl y0
            have hz := BQ.out.size
            cases j with
            | zero =>
              clear c0
              generalize hWA : wr.alloc _ = wA at *
              generalize wr.heap.size = R at *
              clear hWA hba
              go_quiet (fail)
              have bqq := HBA.out.trans ((below_drewN (Below.refl wA.heap.size wA) nq).mono HBA.out.size)
              have HBQQ := Lib.hid bqq
              clear bqq
              generalize wA.drewN nq = wB at *
              go_wp2_with fail
              go_roundg (gk - 1)
              case measure => omega
              case rel => exact ⟨1, by omega, by go_num, HBQQ.out⟩
            | succ q =>
              obtain ⟨s1, hs1q⟩ : ∃ s, E[q]? = some s := ⟨E[q]'(by have := HN.out; omega), List.getElem?_eq_getElem _⟩
              have hlt : lt s1.1 s.1 = true := by
                have h1 := (List.getElem?_eq_some_iff.1 hs1q)
                have h2 := (List.getElem?_eq_some_iff.1 HS.out)
                obtain ⟨i1, e1⟩ := h1
                obtain ⟨i2, e2⟩ := h2
                have := List.pairwise_iff_getElem.1 HUP.out q (q + 1) i1 i2 (by omega)
                rw [e1, e2] at this
                exact this
              obtain ⟨g2, g2', hge, hge2, _, _, p0, _⟩ := HKV.out q s1 hs1q
              cases hge
              cases hge2
              have c1 := (Below.cell (p := ⟨g, q, none⟩) HBA.out hg).trans p0
              clear p0 hs1q
              have hb1 : Op.bytesLess (bs s1.1).toList (bs s.1).toList = true := by rw [bs_toList, bs_toList]; exact hlt
              have hb2 : Op.bytesLess (bs s.1).toList (bs s1.1).toList = false := by rw [bs_toList, bs_toList]; exact lt_asymm hlt
              clear hlt
              generalize hWA : wr.alloc _ = wA at *
              generalize wr.heap.size = R at *
              clear hWA hba
              generalize bs s1.1 = t1 at *
              generalize bs s.1 = t2 at *
              obtain ⟨j, hjq⟩ : ∃ j, q + 1 = j := ⟨_, rfl⟩
              rw [hjq] at hj hjN m0 m1 m2 m3 c0 ⊢
              have hi0 : (0 : Int) < (j : Int) := by omega
              have hi1 : 0 < j := by omega
              have hi2 : decide (0 < j) = true := by rw [decide_eq_true_iff]; exact hi1
              have hi3 : decide ((0 : Int) < (j : Int)) = true := by rw [decide_eq_true_iff]; exact hi0
              have hk1 : (j : Int) - 1 = (q : Int) := by omega
              have hw1 := IntWalk.i64_in ((j : Int) - 1) ⟨by omega, by omega⟩
              rw [hk1] at hw1
              have hqN : q < N := by omega
              have hqN2 : (q : Int) < (N : Int) := by omega
              have HJQ := Lib.hid hjq
              clear hjq
              go_quiet (fail)
              have bqq := HBA.out.trans ((below_drewN (Below.refl wA.heap.size wA) nq).mono HBA.out.size)
              have HBQQ := Lib.hid bqq
              clear bqq
              generalize wA.drewN nq = wB at *
              go_wp2_with fail
              go_roundg (gk - 1)
              case measure => omega
              case rel => exact ⟨j + 1, by omega, by go_num, HBQQ.out⟩
          · obtain rfl : j = N := by omega
            have HBQ := Lib.hid (HB5.out.trans (bq.mono HB5.out.size))
            clear bq
            go_wp2_with fail
            go_ret
            exact ⟨rfl, B1.out.trans (HBQ.out.mono B1.out.size)⟩
end Go.Proofs.YtbjginlhgedjdaaDoor.K
