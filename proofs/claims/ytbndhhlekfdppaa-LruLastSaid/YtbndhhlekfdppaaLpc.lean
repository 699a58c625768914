/- The program's cache in memory: its own block with the array of keys; the map of what is stored. -/
import Derived.Test.YtbndhhlekfdppaaLkey
import Derived.Laws.CopyRow
namespace Go.Proofs.Ytbndhhlekfdppaa.L
open Go.RowKit Go.Maps
set_option linter.unusedVariables false

/-- What the map holds of a block. -/
def entV (s : List UInt8) : Value := .agg #[.string (bs s)]
theorem zeroEnt (w : World) : (zeroValue 52).run Try.prog w = .ok (entV []) w := by kernel_rfl
theorem exactK {w : World} {mb n : Nat} {D : DataW Value} (h : w.ownsMap Try.prog 32 heldR mb n D) : w.ownsMap Try.prog 32 heldR mb (Maps.size D) D := by
  obtain ⟨es, clock, hb, F, _, hD⟩ := h
  refine ⟨es, clock, hb, F, ?_, hD⟩
  rw [hD]
  simp [Maps.size, length_sorted]
/-- The map in block mb holds just these items. -/
def MapI (w : World) (mb : Nat) (l : List It) : Prop :=
  ∃ D : DataW Value, w.ownsMap Try.prog 32 heldR mb l.length D ∧ Maps.size D = l.length ∧
    (∀ x ∈ l, Maps.has D (keyB x.1) = true ∧ ∀ z, D.atKey (keyB x.1) z = .held (entV x.2)) ∧ (∀ b : Bk, b.fit → Maps.has D (keyB b) = true → ∃ x ∈ l, x.1 = b)
theorem mapI_new (w : World) : MapI (w.alloc (.map #[] 0)) w.heap.size [] :=
  ⟨_, World.ownsMap_made w _ _ _, rfl, (fun x hx => nomatch hx), (fun b hb h => nomatch (show false = true from h))⟩
section
variable {w w' : World} {mb : Nat} {l l' : List It} {b : Bk} {s : List UInt8}
theorem MapI.kept (h : MapI w mb l) (hk : w'.heap[mb]? = w.heap[mb]?) : MapI w' mb l := by
  obtain ⟨D, ⟨es, clock, hb, r⟩, r2⟩ := h
  exact ⟨D, ⟨es, clock, by rw [hk]; exact hb, r⟩, r2⟩
theorem MapI.lt (h : MapI w mb l) : mb < w.heap.size := by
  obtain ⟨D, h, _⟩ := h
  exact h.lt
theorem MapI.as (h : MapI w mb l) (hm : ∀ x, x ∈ l' ↔ x ∈ l) (hl : l'.length = l.length) : MapI w mb l' := by
  obtain ⟨D, hD, hs, h1, h2⟩ := h
  exact ⟨D, by rw [hl]; exact hD, by rw [hl]; exact hs, fun x hx => h1 x ((hm x).1 hx), fun b hb hh => by
    obtain ⟨x, hx, e⟩ := h2 b hb hh
    exact ⟨x, (hm x).2 hx, e⟩⟩
theorem MapI.len (h : MapI w mb l) (ty : TypeId) :
    (Builtin.len_ #[47] ty #[.map (some mb)]).run Try.prog w = .ok (.int .i64 ((l.length : Nat) : Int)) w := by
  obtain ⟨D, hD, hs, _⟩ := h
  rw [hD.len Try.underlying47 ty, hs]
theorem MapI.find (h : MapI w mb l) (hb : b.fit) :
    (Instr.lookup 47 (.map (some mb)) (blkV b) true).run Try.prog w = .ok (.tuple #[entV (textOf l b), .bool (hasB l b)]) w := by
  obtain ⟨D, hD, _, hin, hno⟩ := h
  obtain ⟨v, ps, hr, hv⟩ := hD.look_ok blkKey Try.underlying47 (zeroEnt w) (zd := .held (entV [])) (zp := []) rfl (keyLit b hb)
  cases hl : look l b with
  | some x =>
    obtain ⟨h1, h2⟩ := look_some hl
    obtain ⟨g1, g2⟩ := hin x h1
    rw [h2] at g1 g2
    rw [g2] at hv
    rw [hr, heldR_ex hv, g1]
    unfold textOf hasB; rw [hl]; rfl
  | none =>
    have g1 : Maps.has D (keyB b) = false := by
      cases g : Maps.has D (keyB b)
      · rfl
      · obtain ⟨x, hx, e⟩ := hno b hb g
        exact absurd e (look_none hl x hx)
    rw [atKey_of_not_has g1] at hv
    rw [hr, heldR_ex hv, g1]
    unfold textOf hasB; rw [hl]; rfl
theorem MapI.store (h : MapI w mb l) (ho : l.Pairwise (fun x y => x.1 ≠ y.1)) (hf : ∀ x ∈ l, x.1.fit) (hb : b.fit) (s : List UInt8) (hn : l.length < maxLen) :
    ∃ w', (Instr.mapUpdate 47 (.map (some mb)) (blkV b) (entV s)).run Try.prog w = .ok () w' ∧ MapI w' mb ((b, s) :: wo l b) ∧ w.grownBy w' (some mb) := by
  obtain ⟨D, hD, hsz, hin, hno⟩ := h
  obtain ⟨w', hr, hown, hg⟩ := hD.update blkKey Try.underlying47 hn (keyLit b hb) (val := entV s) (d := .held (entV s)) (ps := []) rfl
  have hlen : Maps.size (D.put (keyB b) (.held (entV s))) = ((b, s) :: wo l b).length := by
    rw [size_put (hD.tidy blkKey), List.length_cons, hsz]
    by_cases hx : Maps.has D (keyB b) = true
    · obtain ⟨x, hx1, e⟩ := hno b hb hx
      rw [if_pos hx, ← wo_len_at ho hx1 e]
    · rw [if_neg hx, wo_id]
      intro x hx1 e
      have := (hin x hx1).1
      rw [e] at this
      exact hx this
  refine ⟨w', hr, ⟨D.put (keyB b) (.held (entV s)), by rw [← hlen]; exact exactK hown, hlen, fun x hx => ?_, fun c hc hh => ?_⟩, hg⟩
  · rcases List.mem_cons.1 hx with rfl | hx
    · exact ⟨has_put_same hD.isMap (keyB_lit _) _, fun z => atKey_put_same hD.isMap (keyB_lit _) _ z⟩
    · obtain ⟨hx, hne⟩ := mem_wo.1 hx
      obtain ⟨a, b'⟩ := hin x hx
      exact ⟨by rw [has_put_other (keyB_ne (hf x hx) hb hne)]; exact a, fun z => by rw [atKey_put_other (keyB_ne (hf x hx) hb hne)]; exact b' z⟩
  · by_cases e : c = b
    · exact ⟨(b, s), List.mem_cons_self .., e.symm⟩
    · rw [has_put_other (keyB_ne hc hb e)] at hh
      obtain ⟨x, hx, e'⟩ := hno c hc hh
      exact ⟨x, List.mem_cons_of_mem _ (mem_wo.2 ⟨hx, by rw [e']; exact e⟩), e'⟩
theorem MapI.del (h : MapI w mb l) (ho : l.Pairwise (fun x y => x.1 ≠ y.1)) (hf : ∀ x ∈ l, x.1.fit) {x : It} (hx : x ∈ l) :
    ∃ w', (∀ ty, (Builtin.delete_ #[47, 32] ty #[.map (some mb), blkV x.1]).run Try.prog w = .ok (.tuple #[]) w') ∧ MapI w' mb (wo l x.1) ∧ w.grownBy w' (some mb) := by
  obtain ⟨D, hD, hsz, hin, hno⟩ := h
  have hb := hf x hx
  obtain ⟨w', hr, hown, ht⟩ := hD.drop blkKey Try.underlying47 (keyLit x.1 hb) 0
  have hlen : Maps.size (D.del (keyB x.1)) = (wo l x.1).length := by
    have h1 := size_del (k := keyB x.1) (hD.tidy blkKey)
    rw [if_pos (hin x hx).1, hsz] at h1
    have := wo_len_at ho hx rfl
    omega
  refine ⟨w', fun ty => hr, ⟨D.del (keyB x.1), by rw [← hlen]; exact exactK hown, hlen, fun d hd => ?_, fun c hc hh => ?_⟩, ht.grown⟩
  · obtain ⟨hd, hne⟩ := mem_wo.1 hd
    obtain ⟨a, b'⟩ := hin d hd
    exact ⟨by rw [has_del_other (keyB_ne (hf d hd) hb hne)]; exact a, fun z => by rw [atKey_del_other (keyB_ne (hf d hd) hb hne)]; exact b' z⟩
  · by_cases e : c = x.1
    · subst e; rw [has_del_same] at hh; cases hh
    · rw [has_del_other (keyB_ne hc hb e)] at hh
      obtain ⟨d, hd, e'⟩ := hno c hc hh
      exact ⟨d, mem_wo.2 ⟨hd, by rw [e']; exact e⟩, e'⟩
end

/-- The cells of the program's cache: a map, an array of keys, its room. -/
def cc (mb : Nat) (os : List Bk) (most : Nat) : List Value := .map (some mb) :: (bflat os ++ [.int .i64 (most : Int)])
theorem cc_len (mb : Nat) (os : List Bk) (most : Nat) : (cc mb os most).length = os.length * 2 + 2 := by simp [cc, bflat_len]
theorem cc_at {mb : Nat} {os : List Bk} {most i : Nat} {b : Bk} (h : os[i]? = some b) : (cc mb os most)[1 + i * 2]? = some (.int .i64 b.seg) ∧ (cc mb os most)[1 + i * 2 + 1]? = some (.int .i64 b.n) := by
  obtain ⟨e0, e1⟩ := bflat_at os i b h
  have hi := (List.getElem?_eq_some_iff.1 h).1
  constructor
  · rw [show 1 + i * 2 = i * 2 + 1 by omega, cc, List.getElem?_cons_succ, List.getElem?_append_left (by rw [bflat_len]; omega), e0]
  · rw [show 1 + i * 2 + 1 = i * 2 + 1 + 1 by omega, cc, List.getElem?_cons_succ, List.getElem?_append_left (by rw [bflat_len]; omega), e1]
theorem cc_most {mb : Nat} {os : List Bk} {most : Nat} (h : os.length = 64) : (cc mb os most)[129]? = some (.int .i64 (most : Int)) := by
  rw [show (129 : Nat) = 128 + 1 from rfl, cc, List.getElem?_cons_succ, List.getElem?_append_right (by rw [bflat_len]; omega), bflat_len, h]; rfl
theorem bflat_take : ∀ (l : List Bk) (n : Nat), bflat (l.take n) = (bflat l).take (n * 2)
  | [], n => by simp [bflat]
  | x :: r, 0 => by simp [bflat]
  | x :: r, n + 1 => by rw [List.take_succ_cons, bflat, bflat, bflat_take r n, show (n + 1) * 2 = n * 2 + 1 + 1 by omega]; rfl
theorem bflat_drop : ∀ (l : List Bk) (n : Nat), bflat (l.drop n) = (bflat l).drop (n * 2)
  | [], n => by simp [bflat]
  | x :: r, 0 => by simp [bflat]
  | x :: r, n + 1 => by rw [List.drop_succ_cons, bflat, bflat_drop r n, show (n + 1) * 2 = n * 2 + 1 + 1 by omega]; rfl

/-- The program's cache: block pb, its map in block mb, its array of keys os. -/
structure Pm (B : Nat) (w : World) (pb mb most : Nat) (os : List Bk) (l : List It) : Prop where
  blk : w.heap[pb]? = some (.cells (cc mb os most).toArray 50 (0, 0))
  map : MapI w mb l
  len : os.length = 64
  base : B ≤ pb ∧ B ≤ mb ∧ pb ≠ mb ∧ B ≤ w.heap.size
section
variable {B pb mb most : Nat} {os : List Bk} {l : List It} {w w' : World}
theorem Pm.lt (h : Pm B w pb mb most os l) : pb < w.heap.size ∧ mb < w.heap.size := ⟨(Array.getElem?_eq_some_iff.1 h.blk).1, h.map.lt⟩
theorem Pm.kept {G : Nat → Prop} (h : Pm B w pb mb most os l) (t : Turn G w w') (hG : ∀ k, k < w.heap.size → (k = pb ∨ k = mb) → ¬ G k) : Pm B w' pb mb most os l := by
  obtain ⟨l1, l2⟩ := h.lt
  exact ⟨by rw [t.block pb l1 (hG pb l1 (Or.inl rfl))]; exact h.blk, h.map.kept (t.block mb l2 (hG mb l2 (Or.inr rfl))), h.len, ⟨h.base.1, h.base.2.1, h.base.2.2.1, Nat.le_trans h.base.2.2.2 t.size⟩⟩
theorem Pm.below (h : Pm B w pb mb most os l) (t : Below w.heap.size w w') : Pm B w' pb mb most os l := h.kept (Turn.of_below (fun _ => False) t (Nat.le_refl _)) (fun _ _ _ f => f)
theorem Pm.head (h : Pm B w pb mb most os l) : w.cell? ⟨pb, 0, none⟩ = some (.map (some mb)) := by
  rw [cell_of_row w pb 0 _ _ (0, 0) h.blk]; rfl
theorem Pm.room (h : Pm B w pb mb most os l) : w.cell? ⟨pb, 129, none⟩ = some (.int .i64 (most : Int)) := by
  rw [cell_of_row w pb 129 _ _ (0, 0) h.blk, List.getElem?_toArray, cc_most h.len]
theorem Pm.key (h : Pm B w pb mb most os l) {i : Nat} {b : Bk} (hb : os[i]? = some b) : w.cell? ⟨pb, 1 + i * 2, none⟩ = some (.int .i64 b.seg) ∧ w.cell? ⟨pb, 1 + i * 2 + 1, none⟩ = some (.int .i64 b.n) := by
  obtain ⟨e0, e1⟩ := cc_at (mb := mb) (most := most) hb
  exact ⟨by rw [cell_of_row w pb _ _ _ (0, 0) h.blk, List.getElem?_toArray, e0], by rw [cell_of_row w pb _ _ _ (0, 0) h.blk, List.getElem?_toArray, e1]⟩
theorem Pm.free (h : Pm B w pb mb most os l) (j : Nat) : w.frozen? ⟨pb, j, none⟩ = false := by simp [World.frozen?, h.blk]
/-- A key is laid into the array. -/
theorem Pm.set (h : Pm B w pb mb most os l) {i : Nat} (hi : i < 64) (b : Bk) :
    Pm B (w.setCells pb (1 + i * 2) [.int .i64 b.seg, .int .i64 b.n]) pb mb most (os.set i b) l ∧ Turn (fun k => k = pb) w (w.setCells pb (1 + i * 2) [.int .i64 b.seg, .int .i64 b.n]) := by
  have hg := grown_setCells pb [.int .i64 b.seg, .int .i64 b.n] (1 + i * 2) w
  have t : Turn (fun k => k = pb) w (w.setCells pb (1 + i * 2) [.int .i64 b.seg, .int .i64 b.n]) := (Turn.refl _ w).grown hg (fun k hk => Or.inl (Option.some.inj hk).symm)
  have hlen := h.len
  obtain ⟨cur', h1, h2, h3⟩ := block_setCells pb 50 [.int .i64 b.seg, .int .i64 b.n] (1 + i * 2) w _ h.blk (by simp only [List.size_toArray, cc_len, List.length_cons, List.length_nil]; omega)
  refine ⟨⟨?_, h.map.kept (t.block mb h.lt.2 (fun e => h.base.2.2.1 e.symm)), by rw [List.length_set]; exact h.len, ⟨h.base.1, h.base.2.1, h.base.2.2.1, Nat.le_trans h.base.2.2.2 t.size⟩⟩, t⟩
  rw [h1]
  have : cur' = (cc mb (os.set i b) most).toArray := by
    apply Array.ext_getElem?
    intro j
    rw [h3 j, List.getElem?_toArray, List.getElem?_toArray, List.length_cons, List.length_cons, List.length_nil]
    have hs : (os.set i b)[i]? = some b := by rw [List.getElem?_set_self (by omega)]
    obtain ⟨e0, e1⟩ := cc_at (mb := mb) (most := most) hs
    by_cases hj : 1 + i * 2 ≤ j ∧ j < 1 + i * 2 + (0 + 1 + 1)
    · rw [if_pos hj]
      rcases (by omega : j = 1 + i * 2 ∨ j = 1 + i * 2 + 1) with rfl | rfl
      · rw [e0, Nat.sub_self]; rfl
      · rw [e1, Nat.add_sub_cancel_left]; rfl
    · rw [if_neg hj]
      rcases Nat.lt_or_ge j (1 + os.length * 2) with hlt | hge
      · rcases Nat.eq_zero_or_pos j with rfl | hp
        · rfl
        · obtain ⟨k, r, hr, rfl⟩ : ∃ k r, r < 2 ∧ j = 1 + k * 2 + r := ⟨(j - 1) / 2, (j - 1) % 2, by omega, by omega⟩
          have hk : k < os.length := by omega
          have hki : k ≠ i := by omega
          have o1 : os[k]? = some os[k] := List.getElem?_eq_getElem hk
          have o2 : (os.set i b)[k]? = some os[k] := by rw [List.getElem?_set_ne (fun e => hki e.symm), o1]
          obtain ⟨p0, p1⟩ := cc_at (mb := mb) (most := most) o1
          obtain ⟨q0, q1⟩ := cc_at (mb := mb) (most := most) o2
          rcases (by omega : r = 0 ∨ r = 1) with rfl | rfl
          · rw [Nat.add_zero, p0, q0]
          · rw [p1, q1]
      · obtain ⟨k, rfl⟩ : ∃ k, j = os.length * 2 + k + 1 := ⟨j - 1 - os.length * 2, by omega⟩
        unfold cc
        rw [List.getElem?_cons_succ, List.getElem?_cons_succ, List.getElem?_append_right (by rw [bflat_len]; omega), List.getElem?_append_right (by rw [bflat_len, List.length_set]; omega), bflat_len, bflat_len, List.length_set]
  rw [this]
/-- A beginning of the array is moved on by one. -/
theorem Pm.copy (h : Pm B w pb mb most os l) {i : Nat} (hi : i < 64) :
    ∃ w', (∀ ty, (Builtin.copy_ #[40, 40] ty #[.slice (some ⟨pb, 3, none⟩) i 63, .slice (some ⟨pb, 1, none⟩) i 64]).run Try.prog w = .ok (.int .i64 (i : Int)) w') ∧
      Pm B w' pb mb most (os.take 1 ++ os.take i ++ os.drop (i + 1)) l ∧ Turn (fun k => k = pb) w w' := by
  have hlen := h.len
  have hcl : (bflat (os.take i)).length = i * 2 := by rw [bflat_len, List.length_take]; omega
  have hsrc : ∀ j v, (bflat (os.take i))[j]? = some v → w.cell? ((⟨pb, 1, none⟩ : Addr).add j) = some v := fun j v hv => by
    have hj : j < i * 2 := by rw [← hcl]; exact (List.getElem?_eq_some_iff.1 hv).1
    rw [Addr.add_lit, cell_of_row w pb _ _ _ (0, 0) h.blk, List.getElem?_toArray, Nat.add_comm, cc, List.getElem?_cons_succ, List.getElem?_append_left (by rw [bflat_len]; omega), ← hv, bflat_take, List.getElem?_take, if_pos hj]
  have hld := run_loadCells_list (P := Try.prog) w ⟨pb, 1, none⟩ (bflat (os.take i)) hsrc
  have hst := run_storeCells_at Try.prog pb 3 50 (bflat (os.take i)) 0 _ w h.blk (by rw [hcl]; simp only [List.size_toArray, cc_len]; omega) (bflat_one _)
  rw [hcl] at hld hst
  have hcells : (cc mb os most).take 3 ++ bflat (os.take i) ++ (cc mb os most).drop (3 + i * 2) = cc mb (os.take 1 ++ os.take i ++ os.drop (i + 1)) most := by
    have e1 : (cc mb os most).take 3 = .map (some mb) :: bflat (os.take 1) := by
      rw [cc, List.take_succ_cons, List.take_append_of_le_length (by rw [bflat_len]; omega), bflat_take]
    have e2 : (cc mb os most).drop (3 + i * 2) = bflat (os.drop (i + 1)) ++ [.int .i64 (most : Int)] := by
      rw [show 3 + i * 2 = (i + 1) * 2 + 1 by omega, cc, List.drop_succ_cons, List.drop_append_of_le_length (by rw [bflat_len]; omega), bflat_drop]
    rw [e1, e2, cc, bflat_append, bflat_append]
    simp
  refine ⟨w.setRow pb (cc mb (os.take 1 ++ os.take i ++ os.drop (i + 1)) most).toArray, fun ty => ?_, ?_⟩
  · obtain ⟨q, hq, hq2⟩ : ∃ q, Try.prog.info? 32 = some q ∧ q.size = 2 := by
      have : (Try.prog.info? 32).map (·.size) = some 2 := by kernel_rfl
      cases hq : Try.prog.info? 32 with
      | none => rw [hq] at this; cases this
      | some q => rw [hq] at this; exact ⟨q, rfl, by simpa using this⟩
    have hst' : (storeCells ⟨pb, 3, none⟩ (bflat (os.take i)) 0).run Try.prog w = .ok () (w.setRow pb (cc mb (os.take 1 ++ os.take i ++ os.drop (i + 1)) most).toArray) := by
      rw [hst]
      simp only [Nat.add_zero]
      rw [← hcells]
    simp [Builtin.copy_, run_underlying Try.underlying40, Builtin.lenOf, Builtin.firstCells, sizeOf, typeInfo, hq, hq2, hld, hst', goInt]
  · have hh := setRow_heap w pb _ (cc mb (os.take 1 ++ os.take i ++ os.drop (i + 1)) most).toArray _ (0, 0) h.blk
    have t : Turn (fun k => k = pb) w (w.setRow pb (cc mb (os.take 1 ++ os.take i ++ os.drop (i + 1)) most).toArray) := by
      refine ⟨rfl, rfl, rfl, by simp [World.setRow], fun k hk hn => ?_⟩
      simp [World.setRow, Array.getElem?_modify]
      exact fun e => absurd e.symm hn
    exact ⟨⟨hh, h.map.kept (t.block mb h.lt.2 (fun e => h.base.2.2.1 e.symm)), by simp; omega, ⟨h.base.1, h.base.2.1, h.base.2.2.1, Nat.le_trans h.base.2.2.2 t.size⟩⟩, t⟩
end
end Go.Proofs.Ytbndhhlekfdppaa.L
