/- The program's Put: a place is made, where there is none. -/
import Derived.Test.YtbndhhlekfdppaaLpnew
import Derived.Test.YtbndhhlekfdppaaBmem
namespace Go.Proofs.Ytbndhhlekfdppaa.L
open Go.RowKit Go.Maps
set_option linter.unusedVariables false
section
variable {B pb mb most : Nat} {os : List Bk} {l : List It} {w : World} {b : Bk}
set_option maxHeartbeats 1000000 in
theorem pspace_any (h : Pm B w pb mb most os l) (hk : os.take l.length = l.map Prod.fst) (ho : Ok most l) (h1 : 1 ≤ most) (hm : most ≤ 64) (hf : Fits l) :
    Calls Try.prog 18 #[.pointer (some ⟨pb, 0, none⟩)] w fun e w' => e = .returned (.tuple #[]) ∧ Pm B w' pb mb most os (l.take (most - 1)) ∧ Turn (fun k => k = mb) w w' := by
  have c0 := h.head
  have c1 := h.room
  have hlq : ∀ ty, (Builtin.len_ #[47] ty #[.map (some mb)]).run Try.prog w.drew = .ok (.int .i64 ((l.length : Nat) : Int)) w.drew := fun ty => (show MapI w.drew mb l from h.map).len ty
  have hfew := ho.few
  by_cases hlm : l.length = most
  · obtain ⟨m, rfl⟩ : ∃ m, most = m + 1 := ⟨most - 1, by omega⟩
    obtain ⟨x, hx⟩ : ∃ x, l[m]? = some x := ⟨_, List.getElem?_eq_getElem (by omega)⟩
    obtain ⟨k0, k1⟩ := h.key (keys_at hk hx)
    obtain ⟨w', hr, hmp, hg⟩ := (show MapI w.drew.drew mb l from h.map).del ho.one (fun x hx => (hf x hx).1) (List.mem_of_getElem? hx)
    have hwo : wo l x.1 = l.take m := by
      rw [wo_place ho.one hx, List.drop_of_length_le (by omega), List.append_nil]
    rw [hwo] at hmp
    have HP := Lib.hid h
    have H2 := Lib.hid (And.intro hmp hg)
    rw [hlm] at hlq
    have hwi : IntKind.i64.wrap (((m + 1 : Nat) : Int) - 1) = (m : Int) := by rw [IntWalk.i64_in _ ⟨by omega, by omega⟩]; omega
    have HLM := Lib.hid hlm
    unfold blkV at hr
    clear h hmp hg hwo hx hlm ho hk hf
    generalize x.1.seg = xs at *
    generalize x.1.n = xn at *
    go_enter Try.func18, Try.ntmps18
    go_wp2
    go_region
    go_wp2
    go_region
    go_end0
    have t : Turn (fun k => k = mb) w w' := (((Turn.refl _ w).drew 1).drew 1).grown H2.out.2 (fun k hk => Or.inl (Option.some.inj hk).symm)
    exact ⟨rfl, ⟨(t.block pb HP.out.lt.1 HP.out.base.2.2.1).trans HP.out.blk, H2.out.1, HP.out.len, ⟨HP.out.base.1, HP.out.base.2.1, HP.out.base.2.2.1, Nat.le_trans HP.out.base.2.2.2 t.size⟩⟩, t⟩
  · have hne : ((l.length : Nat) : Int) ≠ (most : Int) := by omega
    have htk : l.take (most - 1) = l := List.take_of_length_le (by omega)
    have HP := Lib.hid h
    have HT := Lib.hid htk
    clear htk h ho hk hf
    generalize l.length = n at *
    go_enter Try.func18, Try.ntmps18
    go_wp2
    go_region
    go_wp2
    go_end0
    rw [HT.out]
    exact ⟨rfl, HP.out.below (below_drewN (Below.refl _ _) 1), (Turn.refl _ _).drew 1⟩
set_option maxHeartbeats 2000000 in
theorem pput_any {s : List UInt8} (h : Pm B w pb mb most os l) (hk : os.take l.length = l.map Prod.fst) (ho : Ok most l) (h1 : 1 ≤ most) (hm : most ≤ 64) (hf : Fits l) (hb : b.fit) :
    Calls Try.prog 10 #[.pointer (some ⟨pb, 0, none⟩), blkV b, .string (bs s)] w (PmPost B w pb mb most (putS most l b s) (.tuple #[])) := by
  have hb0 : Below w.heap.size w (w.alloc (.cells #[.int .i64 b.seg, .int .i64 b.n] 32)) := (Below.refl _ _).alloc (Nat.le_refl _) _
  have y0 := heap_alloc_new w (.cells #[.int .i64 b.seg, .int .i64 b.n] 32)
  have hP := h.below hb0
  obtain ⟨bb, hbb⟩ : ∃ bb, bb = w.heap.size := ⟨_, rfl⟩
  have HNE := Lib.hid (show bb ≠ pb ∧ bb ≠ mb from by have := h.lt; omega)
  have HB0 := Lib.hid hb0
  have HK := Lib.hid hk
  have HOK := Lib.hid (And.intro ho (And.intro hm (And.intro h1 (And.intro hf hb))))
  clear h hb0 hk ho hm h1 hf
  unfold blkV
  go_enter Try.func10, Try.ntmps10
  go_wp2
  generalize hW0 : World.alloc w _ = W0 at *
  rw [← hbb] at y0 ⊢
  have hcl := fun t => cell_of_row W0 bb t _ _ (0, 0) y0
  have f0 := hcl 0; have f1 := hcl 1
  simp only [List.getElem?_toArray, List.getElem?_cons_succ, List.getElem?_cons_zero] at f0 f1
  have c0 := hP.head
  have HBB := Lib.hid hbb
  have hlook := (show MapI W0.drew mb l from hP.map).find hb
  unfold blkV at hlook
  have HP := Lib.hid hP
  have hP' := hP
  clear hcl hW0 hbb hP
  have hA := (Below.refl W0.heap.size W0).alloc (Nat.le_refl _) (.cells #[.string ⟨#[]⟩] 52)
  have hPA := hP'.below hA
  have g0 : (W0.alloc (.cells #[.string ⟨#[]⟩] 52)).drew.cell? ⟨bb, 0, none⟩ = some (.int .i64 b.seg) := (hA.cell (p := ⟨bb, 0, none⟩) (World.block_lt_of_cell? _ _ f0)).trans f0
  have g1 : (W0.alloc (.cells #[.string ⟨#[]⟩] 52)).drew.cell? ⟨bb, 1, none⟩ = some (.int .i64 b.n) := (hA.cell (p := ⟨bb, 1, none⟩) (World.block_lt_of_cell? _ _ f1)).trans f1
  have c1 : (W0.alloc (.cells #[.string ⟨#[]⟩] 52)).drew.cell? ⟨pb, 0, none⟩ = some (.map (some mb)) := hPA.head
  have hlook1 := (show MapI (W0.alloc (.cells #[.string ⟨#[]⟩] 52)).drew mb l from hPA.map).find hb
  unfold blkV at hlook1
  have HA := Lib.hid hA
  clear hA hPA hP'
  generalize hhv : hasB l b = hv at *
  generalize htx : textOf l b = tx at *
  unfold entV at hlook hlook1
  have HTX := Lib.hid htx
  have HHV := Lib.hid hhv
  clear htx hhv
  go_region
  all_goals
    clear hlook hlook1 g0 g1 c1
    have hB1 : Below W0.heap.size W0 (W0.alloc (.cells #[.string (bs tx)] 52)).drew := ((Below.refl W0.heap.size W0).alloc (Nat.le_refl _) _).drew
    have hx := heap_alloc_new W0 (.cells #[.string (bs tx)] 52)
    have x0 : (W0.alloc (.cells #[.string (bs tx)] 52)).drew.cell? ⟨W0.heap.size, 0, none⟩ = some (.string (bs tx)) := by
      rw [cell_of_row _ _ _ _ _ (0, 0) (show (W0.alloc (.cells #[.string (bs tx)] 52)).drew.heap[W0.heap.size]? = _ from hx)]; rfl
    generalize hW1 : (W0.alloc (.cells #[.string (bs tx)] 52)).drew = W1 at *
    obtain ⟨sb, hsb⟩ : ∃ sb, sb = W0.heap.size := ⟨_, rfl⟩
    rw [← hsb] at x0 ⊢
    have hpS : sb ≠ pb := by have := HP.out.lt.1; omega
    have e0 := (hB1.cell (p := ⟨bb, 0, none⟩) (World.block_lt_of_cell? _ _ f0)).trans f0
    have e1 := (hB1.cell (p := ⟨bb, 1, none⟩) (World.block_lt_of_cell? _ _ f1)).trans f1
    have HP1 := Lib.hid (HP.out.below hB1)
    have HB1 := Lib.hid (HB0.out.trans (hB1.mono HB0.out.size))
    clear hW1 hx hB1 y0 f0 f1 c0 HA HP hsb
    have HPL := Lib.hid (place_of l b)
    cases hv with
    | true =>
      obtain ⟨p, x, h1, h2, h3, h4⟩ : ∃ p x, l[p]? = some x ∧ x.1 = b ∧ look l b = some x ∧ ∀ y ∈ l.take p, y.1 ≠ b := by
        rcases HPL.out with h | ⟨h1, _⟩
        · exact h
        · have := HHV.out; unfold hasB at this; rw [h1] at this; cases this
      have hp := (List.getElem?_eq_some_iff.1 h1).1
      have hn : l.length ≤ 64 := Nat.le_trans HOK.out.1.few HOK.out.2.1
      have hwl := wo_len_at HOK.out.1.one (List.mem_of_getElem? h1) h2
      have hl2 : ((b, s) :: wo l b).length = l.length := by rw [List.length_cons]; exact hwl
      have c0 := HP1.out.head
      obtain ⟨w2, hr, hmp, hg⟩ := (show MapI W1.drew mb l from HP1.out.map).store HOK.out.1.one (fun x hx => (HOK.out.2.2.2.1 x hx).1) hb s (by unfold maxLen; omega)
      have t2 : Turn (fun k => k = mb) W1 w2 := ((Turn.refl _ W1).drew 1).grown hg (fun k hk => Or.inl (Option.some.inj hk).symm)
      have hP2 : Pm B w2 pb mb most os ((b, s) :: wo l b) := ⟨(t2.block pb HP1.out.lt.1 HP1.out.base.2.2.1).trans HP1.out.blk, hmp, HP1.out.len, ⟨HP1.out.base.1, HP1.out.base.2.1, HP1.out.base.2.2.1, Nat.le_trans HP1.out.base.2.2.2 t2.size⟩⟩
      have HU := Lib.hid (puse_any hP2 (by rw [hl2]; exact hn) (by rw [hl2]; exact hp) ((keys_at HK.out h1).trans (by rw [h2])) (fun j hj => keys_not HK.out hp h4 hj))
      have hbl : bb < W1.heap.size := World.block_lt_of_cell? _ _ e0
      have d0 := (cell_turn t2 hbl HNE.out.2 0).trans e0
      have d1 := (cell_turn t2 hbl HNE.out.2 1).trans e1
      have hps : putS most l b s = (b, s) :: (l.take p ++ l.drop (p + 1)) := by
        unfold putS
        rw [List.take_of_length_le (by rw [hl2]; exact HOK.out.1.few), ← wo_place HOK.out.1.one h1, h2]
      have hpl : (putS most l b s).length = l.length := by
        unfold putS
        rw [List.take_of_length_le (by rw [hl2]; exact HOK.out.1.few), hl2]
      have hpe : putS most l b s = (b, s) :: wo l b := by
        unfold putS
        rw [List.take_of_length_le (by rw [hl2]; exact HOK.out.1.few)]
      have HG := Lib.hid (And.intro hps (And.intro hpl (And.intro hp hpe)))
      have T2 := Lib.hid t2
      unfold blkV at HU hr
      unfold entV at hr
      clear hps hpl hp hpe h1 h2 h3 h4 hn hwl hl2 hmp hg t2 hP2 HPL
      go_wp2
      go_region
      clear hr e0 e1 c0
      go_wp2_with fail
      refine HU.out.mono ?_
      rintro e w3 ⟨rfl, hP3, ht3⟩
      have H3 := Lib.hid (And.intro hP3 ht3)
      clear hP3 ht3 d0 d1 HU
      go_wp2
      go_end0
      obtain ⟨hps, hpl, hp, hpe⟩ := HG.out
      refine ⟨rfl, _, ⟨H3.out.1.blk, by rw [hpe]; exact H3.out.1.map, H3.out.1.len, H3.out.1.base⟩, ?_, ?_⟩
      · rw [hpl, keys_use HK.out (by rw [HP1.out.len]; have := HOK.out.1.few; have := HOK.out.2.1; omega) hp, hps, List.map_cons]
      · exact ((Turn.of_below _ HB1.out (Nat.le_refl _)).trans (T2.out.mono (fun k _ hk => Or.inr hk))).trans (H3.out.2.mono (fun k _ hk => Or.inl hk))
    | false =>
      have hno : ∀ y ∈ l, y.1 ≠ b := by
        rcases HPL.out with ⟨p, x, _, _, h3, _⟩ | ⟨_, h⟩
        · have := HHV.out; unfold hasB at this; rw [h3] at this; cases this
        · exact h
      have HS := Lib.hid (pspace_any HP1.out HK.out HOK.out.1 HOK.out.2.2.1 HOK.out.2.1 HOK.out.2.2.2.1)
      have HNO := Lib.hid hno
      clear hno HPL
      go_wp2_with fail
      refine HS.out.mono ?_
      rintro e w2 ⟨rfl, hP2, t2⟩
      obtain ⟨n, hn⟩ : ∃ n, n = (l.take (most - 1)).length := ⟨_, rfl⟩
      have hn64 : n < 64 := by rw [hn, List.length_take]; have := HOK.out; omega
      have c0 := hP2.head
      have hbl : bb < W1.heap.size := World.block_lt_of_cell? _ _ e0
      have d0 := (cell_turn t2 hbl HNE.out.2 0).trans e0
      have d1 := (cell_turn t2 hbl HNE.out.2 1).trans e1
      have hlq : ∀ ty, (Builtin.len_ #[47] ty #[.map (some mb)]).run Try.prog w2.drew = .ok (.int .i64 ((n : Nat) : Int)) w2.drew := fun ty => by
        rw [hn]; exact (show MapI w2.drew mb _ from hP2.map).len ty
      obtain ⟨y, hy⟩ : ∃ y, os[n]? = some y := ⟨_, List.getElem?_eq_getElem (by rw [hP2.len]; exact hn64)⟩
      obtain ⟨k0, k1⟩ := hP2.key hy
      have z0 := hP2.free (1 + n * 2)
      have z1 := hP2.free (1 + n * 2 + 1)
      have hset := hP2.set hn64 b
      have HSET := Lib.hid hset
      have HN := Lib.hid hn
      have T2 := Lib.hid t2
      clear hy hset hn t2 hP2 HS e0 e1
      go_wp2
      go_region
      have hP3 : Pm B (((w2.setCell ⟨pb, 1 + n * 2, none⟩ (.int .i64 b.seg)).setCell ⟨pb, 1 + n * 2 + 1, none⟩ (.int .i64 b.n)).drew) pb mb most (os.set n b) (l.take (most - 1)) := HSET.out.1.below (below_drewN (Below.refl _ _) 1)
      have t3 : Turn (fun k => k = pb) w2 (((w2.setCell ⟨pb, 1 + n * 2, none⟩ (.int .i64 b.seg)).setCell ⟨pb, 1 + n * 2 + 1, none⟩ (.int .i64 b.n)).drew) := HSET.out.2.drew 1
      generalize ((w2.setCell ⟨pb, 1 + n * 2, none⟩ (.int .i64 b.seg)).setCell ⟨pb, 1 + n * 2 + 1, none⟩ (.int .i64 b.n)).drew = w3 at *
      have hbl2 : bb < w2.heap.size := World.block_lt_of_cell? _ _ d0
      have g0 := (cell_turn t3 hbl2 HNE.out.1 0).trans d0
      have g1 := (cell_turn t3 hbl2 HNE.out.1 1).trans d1
      have c1 := hP3.head
      have hsub : ∀ x, x ∈ l.take (most - 1) → x ∈ l := fun x hx => List.mem_of_mem_take hx
      obtain ⟨w4, hr, hmp, hg⟩ := (show MapI w3.drew mb _ from hP3.map).store (HOK.out.1.one.sublist (List.take_sublist _ _)) (fun x hx => (HOK.out.2.2.2.1 x (hsub x hx)).1) hb s (by rw [← HN.out]; unfold maxLen; omega)
      rw [wo_id (fun x hx => HNO.out x (hsub x hx))] at hmp
      have t4 : Turn (fun k => k = mb) w3 w4 := ((Turn.refl _ w3).drew 1).grown hg (fun k hk => Or.inl (Option.some.inj hk).symm)
      have hP4 : Pm B w4 pb mb most (os.set n b) ((b, s) :: l.take (most - 1)) := ⟨(t4.block pb hP3.lt.1 hP3.base.2.2.1).trans hP3.blk, hmp, hP3.len, ⟨hP3.base.1, hP3.base.2.1, hP3.base.2.2.1, Nat.le_trans hP3.base.2.2.2 t4.size⟩⟩
      have hl4 : ((b, s) :: l.take (most - 1)).length = n + 1 := by rw [List.length_cons, ← HN.out]
      have hol := HP1.out.len
      have hnl : n ≤ l.length := by rw [HN.out]; exact List.length_take_le' _ _
      have HU := Lib.hid (puse_any hP4 (i := n) (b := b) (by rw [hl4]; omega) (by rw [hl4]; omega) (by rw [List.getElem?_set_self (by omega)]) (fun j hj => by
        rw [List.getElem?_set_ne (by omega)]
        intro he
        have hjl : l[j]? = some l[j] := List.getElem?_eq_getElem (by omega)
        have h1 := keys_at HK.out hjl
        rw [he] at h1
        exact HNO.out _ (List.mem_of_getElem? hjl) (Option.some.inj h1).symm))
      have hbl3 : bb < w3.heap.size := World.block_lt_of_cell? _ _ g0
      have q0 := (cell_turn t4 hbl3 HNE.out.2 0).trans g0
      have q1 := (cell_turn t4 hbl3 HNE.out.2 1).trans g1
      have hps : putS most l b s = (b, s) :: l.take (most - 1) := by
        unfold putS
        rw [wo_id HNO.out]
        obtain ⟨m, rfl⟩ : ∃ m, most = m + 1 := ⟨most - 1, by have := HOK.out.2.2.1; omega⟩
        rw [List.take_succ_cons]; rfl
      have htn : l.take (most - 1) = l.take n := by
        rw [HN.out, List.length_take]
        exact (List.take_eq_take_iff.2 (by omega))
      have HG := Lib.hid (And.intro hps (And.intro hl4 (And.intro hol (And.intro hnl htn))))
      have T3 := Lib.hid (t3.mono (G := fun k => k = pb ∨ k = mb) (fun k _ hk => Or.inl hk))
      have T4 := Lib.hid (t4.mono (G := fun k => k = pb ∨ k = mb) (fun k _ hk => Or.inr hk))
      unfold blkV at HU hr
      unfold entV at hr
      clear hps hl4 hol hnl htn hP3 hP4 t3 t4 hmp hg hsub d0 d1 c0 k0 k1 z0 z1 hlq HSET
      go_wp2
      go_region
      clear hr g0 g1 c1
      go_wp2_with fail
      refine HU.out.mono ?_
      rintro e w5 ⟨rfl, hP5, ht5⟩
      have H5 := Lib.hid (And.intro hP5 ht5)
      clear hP5 ht5 q0 q1 HU
      go_wp2
      go_end0
      obtain ⟨hps, hl4, hol, hnl, htn⟩ := HG.out
      refine ⟨rfl, _, ⟨H5.out.1.blk, by rw [hps]; exact H5.out.1.map, H5.out.1.len, H5.out.1.base⟩, ?_, ?_⟩
      · rw [hps, hl4, List.take_succ_cons, List.take_append_of_le_length (by rw [List.length_take, List.length_set]; omega), List.take_take, Nat.min_self, List.take_set_of_le (Nat.le_refl _), List.map_cons, htn, List.map_take, ← HK.out, List.take_take, Nat.min_eq_left hnl]
      · exact (((Turn.of_below _ HB1.out (Nat.le_refl _)).trans (T2.out.mono (fun k _ hk => Or.inr hk))).trans T3.out).trans (T4.out.trans (H5.out.2.mono (fun k _ hk => Or.inl hk)))
end
end Go.Proofs.Ytbndhhlekfdppaa.L
