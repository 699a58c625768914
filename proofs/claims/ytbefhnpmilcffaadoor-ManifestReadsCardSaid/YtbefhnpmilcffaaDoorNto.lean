/- The law's own change of a manifest into the document's. -/
import Derived.Test.YtbefhnpmilcffaaDoorNbytes
import Derived.Test.YtbefhnpmilcffaaDoorBmem
import Derived.Deep.AppendLies
import Derived.Test.YtbefhnpmilcffaaDoorBsink
namespace Go.Proofs.YtbefhnpmilcffaaDoor.J
open Go.RowKit
set_option linter.unusedVariables false
set_option linter.unusedSimpArgs false

theorem infoRefSeg : (Tryd.prog.info? 48).map (fun i => (i.zero, i.size, i.bytes)) = some (some (.agg #[.int .i64 0, .int .i64 0, .int .u32 0]), 3, 24) := by kernel_rfl
theorem three_new (w : World) (c0 c1 c2 : Value) (t : TypeId) : ∀ j u, [c0, c1, c2][j]? = some u → (w.alloc (.cells #[c0, c1, c2] t)).cell? ((⟨w.heap.size, 0, none⟩ : Addr).add j) = some u := by
  intro j u hu
  rw [Addr.add_lit, Nat.zero_add, cell_of_row _ w.heap.size j _ _ (0, 0) (heap_alloc_new w _)]
  simpa using hu
theorem sform {w : World} {B : Nat} {e : TypeId} {size : Nat} {v : Value} {n : Nat} {xs : List Value} (h : w.ownsRow B e size v n xs) : ∃ a c, v = .slice a n c := by
  rcases h with ⟨_, ⟨rfl, rfl⟩ | ⟨g, cap, cur, rfl, _, hg, _⟩⟩
  · exact ⟨none, 0, rfl⟩
  · exact ⟨_, cap, rfl⟩

/-- What lay below w2's end is as it was. -/
def Lw (w2 wr W : World) : Prop := Below w2.heap.size wr W
/-- What has been changed so far: block tb holds it. -/
structure Toing (w2 : World) (tb : Nat) (ver : Int) (l : List Sg) (W : World) : Prop where
  out : ∃ v, W.heap[tb]? = some (.cells #[.int .i64 ver, v] 32 (0, 0)) ∧ W.ownsRow w2.heap.size 48 3 v l.length (sflat l)
  turn : Turn (fun k => k = tb) w2 W

theorem Toing.next {w2 wr w3 : World} {tb : Nat} {ver : Int} {l : List Sg} {s : Sg} {v : Value} {gg cap n : Nat} {o : Obj} (h : Turn (fun k => k = tb) w2 wr) (hv : wr.heap[tb]? = some (.cells #[.int .i64 ver, v] 32 (0, 0))) (ht : tb < w2.heap.size)
    (hn : some tb ≠ v.ownBlock) (hg : (wr.alloc o).drew.grownBy w3 v.ownBlock) (hS : Lw w2 wr w3) (ho : w3.ownsRow w2.heap.size 48 3 (.slice (some ⟨gg, 0, none⟩) (n + 1) cap) (n + 1) (sflat l ++ [.int .i64 s.n, .int .i64 s.size, .int .u32 s.sum])) (hl : l.length = n) :
    Toing w2 tb ver (l ++ [s]) (w3.setCell ⟨tb, 1, none⟩ (.slice (some ⟨gg, 0, none⟩) (n + 1) cap)) := by
  have hz := h.size
  have h3 : w3.heap[tb]? = some (.cells #[.int .i64 ver, v] 32 (0, 0)) := by
    rw [hg.block tb (by show tb < (wr.alloc o).heap.size; simp; omega) hn]
    show (wr.alloc o).heap[tb]? = _
    rw [Below.heap_alloc _ _ _ (by omega)]; exact hv
  have h4 := heap_setCell_same w3 tb 1 _ _ (.slice (some ⟨gg, 0, none⟩) (n + 1) cap) h3
  refine ⟨⟨_, h4, ?_⟩, ?_⟩
  · rw [List.length_append, List.length_singleton, hl, sflat_app]
    refine owns_kept ho (fun q hq => ?_)
    have hq2 := (ho.lt q hq).1
    rw [Below.heap_setCell _ _ _ _ (by show q ≠ tb; omega)]
  · exact Turn.setCell (F := fun k => k = tb) (p := ⟨tb, 1, none⟩) (show Turn (fun k => k = tb) w2 w3 from ⟨hS.os.trans h.os, hS.tape.trans h.tape, hS.output.trans h.output, Nat.le_trans hz hS.size, fun k hk hn => (hS.block k hk).trans (h.block k hk hn)⟩) rfl _

set_option maxRecDepth 100000 in
set_option maxHeartbeats 2000000 in
theorem to_any (m : Mf) (a : Option Addr) (cap : Nat) (w : World) (hin : SgsIn w a m.segs) (hl : m.segs.length ≤ 2000) :
    Calls Tryd.prog 10 #[mfV m.ver a m.segs.length cap] w fun e w' => ∃ a2 cap2, e = .returned (mfV m.ver a2 m.segs.length cap2) ∧ SgsIn w' a2 m.segs ∧ Below w.heap.size w w' := by
  obtain ⟨i0, hi, hz0, hz1, hz2⟩ := info_parts infoRefSeg
  have HINF := Lib.hid (And.intro hi (And.intro hz0 (And.intro hz1 hz2)))
  clear hi hz0 hz1 hz2
  obtain ⟨L, hL⟩ : ∃ L, L = m.segs.length := ⟨_, rfl⟩
  rw [← hL] at hl ⊢
  have HL := Lib.hid hL; have HI := Lib.hid hin
  clear hL hin
  unfold mfV
  go_enter Tryd.func10, Tryd.ntmps10
  go_wp2_with fail
  obtain ⟨w2, hw2⟩ : ∃ w2, w2 = (((w.alloc (.cells #[.int .i64 m.ver, .slice a L cap] 24)).alloc (.cells #[.int .i64 0, .slice none 0 0] 32)).alloc (.cells #[.int .i64 m.ver, .slice none 0 0] 32)) := ⟨_, rfl⟩
  rw [← hw2]
  have n0 : w2.heap[w.heap.size]? = some (.cells #[.int .i64 m.ver, .slice a L cap] 24 (0, 0)) := by
    rw [hw2, Below.heap_alloc _ _ _ (by simp; omega)]; exact heap_alloc2_old w _ _
  have n1 : w2.heap[w.heap.size + 1]? = some (.cells #[.int .i64 0, .slice none 0 0] 32 (0, 0)) := by
    rw [hw2, Below.heap_alloc _ _ _ (by simp)]; exact heap_alloc2_new w _ _
  have n2 : w2.heap[w.heap.size + 1 + 1]? = some (.cells #[.int .i64 m.ver, .slice none 0 0] 32 (0, 0)) := by
    have := heap_alloc_new ((w.alloc (.cells #[.int .i64 m.ver, .slice a L cap] 24)).alloc (.cells #[.int .i64 0, .slice none 0 0] 32)) (.cells #[.int .i64 m.ver, .slice none 0 0] 32)
    simp only [World.size_alloc] at this
    rw [hw2]; exact this
  have hb2 : Below w.heap.size w w2 := by rw [hw2]; exact (((Below.refl _ _).alloc (Nat.le_refl _) _).alloc (by simp) _).alloc (by simp; omega) _
  have hs2 : w2.heap.size = w.heap.size + 3 := by rw [hw2]; simp
  obtain ⟨tb, htb⟩ : ∃ tb, tb = w.heap.size + 1 + 1 := ⟨_, rfl⟩
  rw [← htb] at n2 ⊢
  have HN0 := Lib.hid n0; have HN1 := Lib.hid n1; have HN2 := Lib.hid n2; have HB2 := Lib.hid hb2
  have htl : tb < w2.heap.size := by omega
  have hmt : w.heap.size ≠ tb := by omega
  have htg : w.heap.size + 1 < tb := by omega
  have hrt : w.heap.size + 1 ≠ tb := by omega
  clear hw2 n0 n1 n2 hb2 htb
  go_loopg [4] L (fun g it wr => ∃ i : Nat, i + g = L ∧ it = .int .i64 i ∧ Toing w2 tb m.ver (m.segs.take i) wr)
  case atStart => exact ⟨0, by omega, rfl, ⟨_, HN2.out, World.ownsRow_nil _ _ _ _⟩, Turn.refl _ _⟩
  case round =>
    obtain ⟨i, hi, rfl, hT⟩ := hrel
    have hts := hT.turn.size
    obtain ⟨v, hv, hrow⟩ := hT.out
    obtain ⟨va, vc, rfl⟩ := sform hrow
    have hlen : (m.segs.take i).length = i := by rw [List.length_take]; have := HL.out; omega
    rw [hlen] at hrow hv
    have HLEN := Lib.hid hlen
    clear hlen
    have hc0 := fun t => cell_of_row wr w.heap.size t _ _ (0, 0) (by rw [hT.turn.block _ (by omega) hmt]; exact HN0.out)
    have c0 := hc0 0; have c1 := hc0 1
    have hc1 := fun t => cell_of_row wr tb t _ _ (0, 0) hv
    have t0 := hc1 0; have t1 := hc1 1
    simp only [List.getElem?_toArray, List.getElem?_cons_succ, List.getElem?_cons_zero] at c0 c1 t0 t1
    have fz : ∀ t, wr.frozen? ⟨tb, t, none⟩ = false := fun t => by simp only [World.frozen?, hv]; simp
    have HV := Lib.hid hv; have HRW := Lib.hid hrow; have HT := Lib.hid hT
    clear hc0 hc1 hv hrow hT
    by_cases hlt : i < L
    · obtain ⟨s, hs⟩ : ∃ s, m.segs[i]? = some s := ⟨m.segs[i]'(by have := HL.out; omega), List.getElem?_eq_getElem _⟩
      have hbw : Below w.heap.size w wr := HB2.out.trans (HT.out.turn.below (fun k hk => by have hk : k = tb := hk; omega) HB2.out.size)
      obtain ⟨b, off, rfl, hbl, d0, d1, d2⟩ := HI.out.at hbw (Nat.le_refl _) i s hs
      have htk : m.segs.take (i + 1) = m.segs.take i ++ [s] := by rw [List.take_add_one, hs]; rfl
      have HTK := Lib.hid htk; have HBW := Lib.hid hbw
      have hbne : b ≠ tb := by omega
      clear htk hbw hs
      go_wp2_with fail
      have hnot : some tb ≠ (Value.slice va i vc).ownBlock := fun e => by have := (HRW.out.lt tb e.symm).1; omega
      have m0 : ∀ W, Lw w2 wr W → W.cell? ⟨tb, 1, none⟩ = some (.slice va i vc) := fun W hW => (Below.cell (p := ⟨tb, 1, none⟩) hW htl).trans t1
      have m1 : ∀ W, Lw w2 wr W → W.cell? ⟨w.heap.size, 1, none⟩ = some (.slice (some ⟨b, off, none⟩) L cap) := fun W hW => (Below.cell (p := ⟨w.heap.size, 1, none⟩) hW (by show w.heap.size < w2.heap.size; omega)).trans c1
      have m2 : ∀ W, Lw w2 wr W → W.cell? ⟨b, off + i * 3, none⟩ = some (.int .i64 s.n) := fun W hW => (Below.cell (p := ⟨b, _, none⟩) hW (by show b < w2.heap.size; omega)).trans d0
      have m3 : ∀ W, Lw w2 wr W → W.cell? ⟨b, off + i * 3 + 1, none⟩ = some (.int .i64 s.size) := fun W hW => (Below.cell (p := ⟨b, _, none⟩) hW (by show b < w2.heap.size; omega)).trans d1
      have m4 : ∀ W, Lw w2 wr W → W.cell? ⟨b, off + i * 3 + 2, none⟩ = some (.int .u32 s.sum) := fun W hW => (Below.cell (p := ⟨b, _, none⟩) hW (by show b < w2.heap.size; omega)).trans d2
      clear c0 c1 t0 d0 d1 d2
      refine wp_region_last (S := Lw w2 wr) (k := 24) (by kernel_rfl) rfl (by kernel_rfl) (by kernel_rfl) (by kernel_rfl) ?_
      have hHeld := (Below.refl w2.heap.size wr).drew
      refine wpAnyH_take (i := 0) (v := ?_) rfl (by kernel_rfl) (by kernel_rfl) (by kernel_rfl) (fun _ _ _ h => h) (Or.inl ⟨by rfl, ?_⟩) hHeld ?_
      rotate_left
      · intro W hSw
        go_simp
        try with_reducible rfl
      try simp only [Act.put, List.setIfInBounds_toArray, List.set_cons_zero, List.set_cons_succ]
      refine wpAnyH_take (i := 1) (v := ?_) rfl (by kernel_rfl) (by kernel_rfl) (by kernel_rfl) (fun _ _ _ h => h) (Or.inl ⟨by rfl, ?_⟩) hHeld ?_
      rotate_left
      · intro W hSw
        go_simp
        try with_reducible rfl
      try simp only [Act.put, List.setIfInBounds_toArray, List.set_cons_zero, List.set_cons_succ]
      refine wpAnyH_take (i := 2) (v := ?_) rfl (by kernel_rfl) (by kernel_rfl) (by kernel_rfl) (fun _ _ _ h => h) (Or.inl ⟨by rfl, ?_⟩) hHeld ?_
      rotate_left
      · intro W hSw
        go_simp
        try with_reducible rfl
      try simp only [Act.put, List.setIfInBounds_toArray, List.set_cons_zero, List.set_cons_succ]
      refine wpAnyH_take (i := 3) (v := ?_) rfl (by kernel_rfl) (by kernel_rfl) (by kernel_rfl) (fun _ _ _ h => h) (Or.inl ⟨by rfl, ?_⟩) hHeld ?_
      rotate_left
      · intro W hSw
        go_simp
        try with_reducible rfl
      try simp only [Act.put, List.setIfInBounds_toArray, List.set_cons_zero, List.set_cons_succ]
      refine wpAnyH_take (i := 4) (v := ?_) rfl (by kernel_rfl) (by kernel_rfl) (by kernel_rfl) (fun _ _ _ h => h) (Or.inl ⟨by rfl, ?_⟩) hHeld ?_
      rotate_left
      · intro W hSw
        go_simp
        try with_reducible rfl
      try simp only [Act.put, List.setIfInBounds_toArray, List.set_cons_zero, List.set_cons_succ]
      refine wpAnyH_take (i := 5) (v := ?_) rfl (by kernel_rfl) (by kernel_rfl) (by kernel_rfl) (fun _ _ _ h => h) (Or.inl ⟨by rfl, ?_⟩) hHeld ?_
      rotate_left
      · intro W hSw
        go_simp
        try with_reducible rfl
      try simp only [Act.put, List.setIfInBounds_toArray, List.set_cons_zero, List.set_cons_succ]
      refine wpAnyH_take (i := 6) (v := ?_) rfl (by kernel_rfl) (by kernel_rfl) (by kernel_rfl) (fun _ _ _ h => h) (Or.inl ⟨by rfl, ?_⟩) hHeld ?_
      rotate_left
      · intro W hSw
        go_simp
        try with_reducible rfl
      try simp only [Act.put, List.setIfInBounds_toArray, List.set_cons_zero, List.set_cons_succ]
      refine wpAnyH_take (i := 7) (v := ?_) rfl (by kernel_rfl) (by kernel_rfl) (by kernel_rfl) (fun _ _ _ h => h) (Or.inl ⟨by rfl, ?_⟩) hHeld ?_
      rotate_left
      · intro W hSw
        go_simp
        try with_reducible rfl
      try simp only [Act.put, List.setIfInBounds_toArray, List.set_cons_zero, List.set_cons_succ]
      refine wpAnyH_take (i := 8) (v := ?_) rfl (by kernel_rfl) (by kernel_rfl) (by kernel_rfl) (fun _ _ _ h => h) (Or.inl ⟨by rfl, ?_⟩) hHeld ?_
      rotate_left
      · intro W hSw
        go_simp
        try with_reducible rfl
      try simp only [Act.put, List.setIfInBounds_toArray, List.set_cons_zero, List.set_cons_succ]
      refine wpAnyH_take (i := 9) (v := ?_) rfl (by kernel_rfl) (by kernel_rfl) (by kernel_rfl) (fun _ _ _ h => h) (Or.inl ⟨by rfl, ?_⟩) hHeld ?_
      rotate_left
      · intro W hSw
        go_simp
        try with_reducible rfl
      try simp only [Act.put, List.setIfInBounds_toArray, List.set_cons_zero, List.set_cons_succ]
      refine wpAnyH_take (i := 10) (v := ?_) rfl (by kernel_rfl) (by kernel_rfl) (by kernel_rfl) (fun _ _ _ h => h) (Or.inl ⟨by rfl, ?_⟩) hHeld ?_
      rotate_left
      · intro W hSw
        go_simp
        try with_reducible rfl
      try simp only [Act.put, List.setIfInBounds_toArray, List.set_cons_zero, List.set_cons_succ]
      refine wpAnyH_take (i := 11) (v := ?_) rfl (by kernel_rfl) (by kernel_rfl) (by kernel_rfl) (fun _ _ _ h => h) (Or.inl ⟨by rfl, ?_⟩) hHeld ?_
      rotate_left
      · intro W hSw
        go_simp
        try with_reducible rfl
      try simp only [Act.put, List.setIfInBounds_toArray, List.set_cons_zero, List.set_cons_succ]
      refine wpAnyH_take (i := 12) (v := ?_) rfl (by kernel_rfl) (by kernel_rfl) (by kernel_rfl) (fun _ _ _ h => h) (Or.inl ⟨by rfl, ?_⟩) hHeld ?_
      rotate_left
      · intro W hSw
        go_simp
        try with_reducible rfl
      try simp only [Act.put, List.setIfInBounds_toArray, List.set_cons_zero, List.set_cons_succ]
      refine wpAnyH_take (i := 13) (v := ?_) rfl (by kernel_rfl) (by kernel_rfl) (by kernel_rfl) (fun _ _ _ h => h) (Or.inl ⟨by rfl, ?_⟩) hHeld ?_
      rotate_left
      · intro W hSw
        go_simp
        try with_reducible rfl
      try simp only [Act.put, List.setIfInBounds_toArray, List.set_cons_zero, List.set_cons_succ]
      refine wpAnyH_take (i := 14) (v := ?_) rfl (by kernel_rfl) (by kernel_rfl) (by kernel_rfl) (fun _ _ _ h => h) (Or.inl ⟨by rfl, ?_⟩) hHeld ?_
      rotate_left
      · intro W hSw
        go_simp
        try with_reducible rfl
      try simp only [Act.put, List.setIfInBounds_toArray, List.set_cons_zero, List.set_cons_succ]
      refine wpAnyH_take (i := 15) (v := ?_) rfl (by kernel_rfl) (by kernel_rfl) (by kernel_rfl) (fun _ _ _ h => h) (Or.inl ⟨by rfl, ?_⟩) hHeld ?_
      rotate_left
      · intro W hSw
        go_simp
        try with_reducible rfl
      try simp only [Act.put, List.setIfInBounds_toArray, List.set_cons_zero, List.set_cons_succ]
      refine wpAnyH_take (i := 16) (v := ?_) rfl (by kernel_rfl) (by kernel_rfl) (by kernel_rfl) (fun _ _ _ h => h) (Or.inl ⟨by rfl, ?_⟩) hHeld ?_
      rotate_left
      · intro W hSw
        go_simp
        try with_reducible rfl
      try simp only [Act.put, List.setIfInBounds_toArray, List.set_cons_zero, List.set_cons_succ]
      refine wpAnyH_take (i := 17) (v := ?_) rfl (by kernel_rfl) (by kernel_rfl) (by kernel_rfl) (fun _ _ _ h => h) (Or.inl ⟨by rfl, ?_⟩) hHeld ?_
      rotate_left
      · intro W hSw
        go_simp
        try with_reducible rfl
      try simp only [Act.put, List.setIfInBounds_toArray, List.set_cons_zero, List.set_cons_succ]
      refine wpAnyH_take (i := 18) (v := ?_) rfl (by kernel_rfl) (by kernel_rfl) (by kernel_rfl) (fun _ _ _ h => h) (Or.inl ⟨by rfl, ?_⟩) hHeld ?_
      rotate_left
      · intro W hSw
        go_simp
        try with_reducible rfl
      try simp only [Act.put, List.setIfInBounds_toArray, List.set_cons_zero, List.set_cons_succ]
      refine wpAnyH_take (i := 19) (v := ?_) rfl (by kernel_rfl) (by kernel_rfl) (by kernel_rfl) (fun _ _ _ h => h) (Or.inl ⟨by rfl, ?_⟩) hHeld ?_
      rotate_left
      · intro W hSw
        go_simp
        try with_reducible rfl
      try simp only [Act.put, List.setIfInBounds_toArray, List.set_cons_zero, List.set_cons_succ]
      refine wpAnyH_take (i := 20) (v := ?_) rfl (by kernel_rfl) (by kernel_rfl) (by kernel_rfl) (fun _ _ _ h => h) (Or.inl ⟨by rfl, ?_⟩) hHeld ?_
      rotate_left
      · intro W hSw
        go_simp
        try with_reducible rfl
      try simp only [Act.put, List.setIfInBounds_toArray, List.set_cons_zero, List.set_cons_succ]
      refine wpAnyH_ready (rs := [21]) (by kernel_rfl) (by simp) ?_
      refine AllReadyH.cons rfl (fun K hK => ?_) ?_
      · go_simp
        refine hK.out _ _ (by first | assumption | exact hHeld.alloc (by simp; omega) _) (fun hHeld => ?_)
        clear hK K
        try simp only [Act.put, List.setIfInBounds_toArray, List.set_cons_zero, List.set_cons_succ]
        refine wpAnyH_ready (rs := [22]) (by kernel_rfl) (by simp) ?_
        refine AllReadyH.cons rfl (fun K hK => ?_) ?_
        · refine step_append_lies _ rfl (.tmp 16) (.tmp 36) 30 (by rfl) w2.heap.size 48 i0 _ 3 24 Tryd.underlying30 HINF.out.1 HINF.out.2.1 HINF.out.2.2.1 HINF.out.2.2.2 rfl (by omega) (.slice va i vc) i (sflat (m.segs.take i)) (by rfl) (by first | exact (HRW.out.alloc _).drew | exact HRW.out.drew.alloc _ | exact HRW.out.alloc _) ⟨wr.heap.size, 0, none⟩ 1 1 [.int .i64 s.n, .int .i64 s.size, .int .u32 s.sum] (by rfl) (by rfl) (World.news_of_block (cs := #[.int .i64 s.n, .int .i64 s.size, .int .u32 s.sum]) (t := 48) (fr := (0, 0)) (heap_alloc_new wr _)) (by simp [Value.oneCell']) (by omega) (by unfold maxLen; omega) (by omega) (by simp; omega) _ rfl ?_
          intro gg cap2 w3 hown3 hgrow hat hlt3
          have hS3 : Lw w2 wr w3 := hHeld.grown hgrow (by simp; omega) (fun j hj => (HRW.out.lt j hj).1)
          refine hK.out _ _ (by first | assumption | exact hHeld.alloc (by simp; omega) _) (fun hHeld => ?_)
          clear hK K
          try simp only [Act.put, List.setIfInBounds_toArray, List.set_cons_zero, List.set_cons_succ]
          refine wpAnyH_take (i := 23) (v := ?_) rfl (by kernel_rfl) (by kernel_rfl) (by kernel_rfl) (fun _ _ _ h => h) (Or.inl ⟨by rfl, ?_⟩) hHeld ?_
          rotate_left
          · intro W hSw
            go_simp
            try with_reducible rfl
          try simp only [Act.put, List.setIfInBounds_toArray, List.set_cons_zero, List.set_cons_succ]
          refine wpAnyH_done (by kernel_rfl) ?_ _
          have x1 := (hS3.cell (p := ⟨tb, 1, none⟩) htl).trans t1
          have f1 := (hS3.frozen (p := ⟨tb, 1, none⟩) htl).trans (fz 1)
          unfold AtLast
          refine wpOp_step rfl (fun K hK => ?_)
          have HK := Lib.hid hK
          clear hK
          go_simp
          refine HK.out _ _ ?_
          clear HK K
          have hnx := Toing.next HT.out.turn HV.out htl hnot hgrow hS3 hown3 HLEN.out
          rw [← HTK.out] at hnx
          have HNX := Lib.hid hnx
          clear hnx x1 f1 hown3 hgrow hat hS3 hHeld m0 m1 m2 m3 m4
          go_wp2_with fail
          go_roundg (gk - 1)
          case measure => omega
          case rel => exact ⟨i + 1, by omega, by go_num, HNX.out⟩
        exact AllReadyH.nil
      exact AllReadyH.nil
    · obtain rfl : i = L := by omega
      have hall : m.segs.take i = m.segs := by rw [HL.out, List.take_length]
      have hown := HRW.out
      have hrb : wr.heap[w.heap.size + 1]? = _ := (HT.out.turn.block _ (by omega) hrt).trans HN1.out
      have hfz : ∀ t, wr.frozen? ⟨w.heap.size + 1, t, none⟩ = false := fun t => by simp only [World.frozen?, hrb]; simp
      have hc2 := fun t => cell_of_row wr (w.heap.size + 1) t _ _ (0, 0) hrb
      have r0 := hc2 0; have r1 := hc2 1
      simp only [List.getElem?_toArray, List.getElem?_cons_succ, List.getElem?_cons_zero] at r0 r1
      have HRB := Lib.hid hrb
      rw [hall] at hown
      have HOWN := Lib.hid hown
      clear hrb hc2 hown
      go_wp2_with fail
      have g1 := heap_setCell_same wr (w.heap.size + 1) 0 _ _ (.int .i64 m.ver) HRB.out
      have g2 := heap_setCell_same _ (w.heap.size + 1) 1 _ _ (.slice va i vc) g1
      have hfin : Below w.heap.size w ((wr.setCell ⟨w.heap.size + 1, 0, none⟩ (.int .i64 m.ver)).setCell ⟨w.heap.size + 1, 1, none⟩ (.slice va i vc)) :=
        (((HB2.out.trans (HT.out.turn.below (fun k hk => by have hk : k = tb := hk; omega) HB2.out.size)).setCell (p := ⟨w.heap.size + 1, 0, none⟩) (Nat.le_succ _) _).setCell (p := ⟨w.heap.size + 1, 1, none⟩) (Nat.le_succ _) _)
      have hown2 : ((wr.setCell ⟨w.heap.size + 1, 0, none⟩ (.int .i64 m.ver)).setCell ⟨w.heap.size + 1, 1, none⟩ (.slice va i vc)).ownsRow w2.heap.size 48 3 (.slice va i vc) i (sflat m.segs) := owns_kept HOWN.out (fun q hq => by
        have := (HOWN.out.lt q hq).1
        rw [Below.heap_setCell _ _ _ _ (by show q ≠ w.heap.size + 1; omega), Below.heap_setCell _ _ _ _ (by show q ≠ w.heap.size + 1; omega)])
      generalize World.setCell (World.setCell wr _ _) _ _ = wf at *
      have hc3 := fun t => cell_of_row wf (w.heap.size + 1) t _ _ (0, 0) g2
      have z0 := hc3 0; have z1 := hc3 1
      simp at z0 z1
      rw [HL.out] at hown2
      obtain ⟨a2, cap2, e2, hsg⟩ := owns_sgs hown2
      rw [← HL.out] at e2
      refine bodyPost_ret (v := .agg #[.int .i64 m.ver, .slice va i vc]) (by simp [results, Tryd.results10, go_sem, z0, z1]) rfl ⟨a2, cap2, by rw [e2], hsg, hfin⟩
end Go.Proofs.YtbefhnpmilcffaaDoor.J
