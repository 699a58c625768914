/- The law's own change of segments, and of a manifest, into the document's. -/
import Derived.Test.YtkdidinekoaobaaGreatDoorPb
import Derived.Test.YtkdidinekoaobaaGreatDoorNa
import Derived.Deep.AppendLies
namespace Go.Proofs.YtkdidinekoaobaaGreatDoor.P
open Go.RowKit M J
set_option linter.unusedVariables false
set_option linter.unusedSimpArgs false

set_option maxRecDepth 100000 in
set_option maxHeartbeats 1600000 in
theorem segs_any (l : List Sg) (a : Option Addr) (cap : Nat) (w : World) (hin : SgsIn w a l) (hl : l.length ≤ 2000) :
    Calls Tryz.prog 15 #[.slice a l.length cap] w fun e w' => ∃ a2 cap2, e = .returned (.slice a2 l.length cap2) ∧ w'.ownsRow w.heap.size 54 3 (.slice a2 l.length cap2) l.length (sflat l) ∧ Below w.heap.size w w' := by
  obtain ⟨i0, hi0, hz0, hz1, hz2⟩ := info_parts infoRefSeg
  have HI := Lib.hid (And.intro hi0 (And.intro hz0 (And.intro hz1 hz2)))
  clear hi0 hz0 hz1 hz2
  obtain ⟨n, hn⟩ : ∃ n, n = l.length := ⟨_, rfl⟩
  have HN := Lib.hid hn; have HIN := Lib.hid hin
  rw [← hn] at hl ⊢
  clear hn hin
  go_enter Tryz.func15, Tryz.ntmps15
  go_wp2_with fail
  go_loopw [3, 4] (fun v i wr => ∃ (k : Nat), k ≤ n ∧ i = .int .i64 k ∧ wr.ownsRow w.heap.size 54 3 v (l.take k).length (sflat (l.take k)) ∧ Below w.heap.size w wr) (fun _ i _ => n - (intOf i).toNat)
  case atStart => exact ⟨0, by omega, rfl, World.ownsRow_nil _ _ _ _, Below.refl _ _⟩
  case round =>
    obtain ⟨k, hk, rfl, hown, hbw⟩ := hrel
    by_cases hlt : k < n
    · have hlti : (k : Int) < (n : Int) := by omega
      obtain ⟨s, hs⟩ : ∃ s, l[k]? = some s := ⟨l[k]'(by rw [← HN.out]; exact hlt), List.getElem?_eq_getElem _⟩
      obtain ⟨b, off, rfl, hbl, c0, c1, c2⟩ := HIN.out.at hbw (Nat.le_refl _) k s hs
      have htk : l.take (k + 1) = l.take k ++ [s] := by rw [List.take_add_one, hs]; rfl
      have HT := Lib.hid htk
      have hlk : (l.take k).length ≤ k := List.length_take_le _ _
      obtain ⟨m, hm⟩ : ∃ m, m = (l.take k).length := ⟨_, rfl⟩
      rw [← hm] at hown hlk
      have HM := Lib.hid hm
      have hbz := hbw.size
      obtain ⟨va, vc, rfl⟩ := sform hown
      have av : (Value.slice va m vc).ownBlock ≠ some b := fun q => by have := (hown.lt _ q).1; omega
      have ltb : b < wr.heap.size := by omega
      clear hm htk hs
      generalize hls : l.take k = ls at *
      have HLS := Lib.hid hls
      clear hls
      obtain ⟨sn, sz, sx⟩ := s
      simp only at c0 c1 c2
      generalize hX : ((sx : Nat) : Int) = X at *
      have HX := Lib.hid hX
      clear hX
      go_wp2_with fail
      go_region_held3 (fun w' => w'.cell? ⟨b, off + k * 3, none⟩ = some (.int .i64 sn) ∧ w'.cell? ⟨b, off + k * 3 + 1, none⟩ = some (.int .i64 sz) ∧ w'.cell? ⟨b, off + k * 3 + 2, none⟩ = some (.int .u32 X))
        (first
          | go_keep
          | (go_split_ands
             refine ⟨?_, ?_, ?_⟩
             all_goals (rw [hgrow.cell_far _ (by simp; omega) (Ne.symm av)]; assumption)))
        ((refine step_append_lies _ (by rfl) _ _ _ (by rfl) w.heap.size 54 i0 _ 3 24 Tryz.underlying39 HI.out.1 HI.out.2.1 HI.out.2.2.1 HI.out.2.2.2 rfl (by omega) (.slice va m vc) _ _ (by rfl) ((hown.alloc _).drew)
            ⟨wr.heap.size, 0, none⟩ 1 1 [.int .i64 sn, .int .i64 sz, .int .u32 X] (by rfl) (by rfl) (World.news_of_block (cs := #[.int .i64 sn, .int .i64 sz, .int .u32 X]) (t := 54) (fr := (0, 0)) (heap_alloc_new wr _)) (by simp [Value.oneCell'])
            (by omega) (by unfold maxLen; omega) (by omega) (by simp; omega) (wr.heap.size + 1) (by simp) ?_; intro gg cap2 w2 hown2 hgrow hat hlt2))
      go_wp2_with fail
      rw [← HX.out] at hown2
      exact ⟨⟨k + 1, by omega, by go_num, by rw [HT.out, sflat_app, List.length_append, ← HM.out]; exact hown2, Below.grown ((hbw.alloc hbz _).drew) hgrow (by simp; omega) (fun j hj => (hown.lt _ hj).1)⟩, by simp [intOf]; omega⟩
    · obtain rfl : k = n := by omega
      have hall : l.take k = l := by rw [HN.out, List.take_length]
      rw [hall, ← HN.out] at hown
      obtain ⟨va, vc, rfl⟩ := sform hown
      have HO := Lib.hid hown; have HB := Lib.hid hbw
      clear hown hall hbw
      go_wp2_with fail
      go_ret
      exact ⟨va, vc, rfl, HO.out, HB.out⟩

/-- Behind the call inside. -/
def TPost (w2 : World) (l : List Sg) (a2 : Option Addr) (c2 : Nat) (w8 : World) : Prop := w8.ownsRow w2.heap.size 54 3 (.slice a2 l.length c2) l.length (sflat l) ∧ Below w2.heap.size w2 w8
set_option maxRecDepth 100000 in
set_option maxHeartbeats 2000000 in
theorem to_any (m : Mf) (a : Option Addr) (cap : Nat) (w : World) (hin : SgsIn w a m.segs) (hl : m.segs.length ≤ 2000) :
    Calls Tryz.prog 12 #[mfV m.ver a m.segs.length cap] w fun e w' => ∃ a2 cap2, e = .returned (mfV m.ver a2 m.segs.length cap2) ∧ SgsIn w' a2 m.segs ∧ (∀ x, a2 = some x → w.heap.size ≤ x.block) ∧ Below w.heap.size w w' := by
  obtain ⟨w2, hw2⟩ : ∃ w2, w2 = (w.alloc (.cells #[.int .i64 m.ver, .slice a m.segs.length cap] 33)).alloc (.cells #[.int .i64 0, .slice none 0 0] 41) := ⟨_, rfl⟩
  have hb2 : Below w.heap.size w w2 := by rw [hw2]; exact ((Below.refl _ _).alloc (Nat.le_refl _) _).alloc (by simp) _
  have n0 : w2.heap[w.heap.size]? = some (.cells #[.int .i64 m.ver, .slice a m.segs.length cap] 33 (0, 0)) := by rw [hw2]; exact heap_alloc2_old w _ _
  have n1 : w2.heap[w.heap.size + 1]? = some (.cells #[.int .i64 0, .slice none 0 0] 41 (0, 0)) := by rw [hw2]; exact heap_alloc2_new w _ _
  have hz2 : w2.heap.size = w.heap.size + 2 := by rw [hw2]; simp
  have A1 : Below w2.heap.size w2 w2.drew := (Below.refl w2.heap.size w2).drew
  have hcl : Calls Tryz.prog 15 #[.slice a m.segs.length cap] w2.drew fun e w' => ∃ a2 c2, e = .returned (.slice a2 m.segs.length c2) ∧ TPost w2 m.segs a2 c2 w' :=
    (segs_any m.segs a cap w2.drew ((hin.later hb2 (Nat.le_refl _)).later A1 (Nat.le_refl _)) hl).mono fun e w' ⟨a2, c2, h1, h2, h3⟩ => ⟨a2, c2, h1, h2, A1.trans (h3.mono A1.size)⟩
  obtain ⟨d0, d1⟩ := two_cells n0
  have f0 : w2.drew.cell? ⟨w.heap.size, 0, none⟩ = some (.int .i64 m.ver) := d0
  have f1 : w2.drew.cell? ⟨w.heap.size, 1, none⟩ = some (.slice a m.segs.length cap) := d1
  have HCL := Lib.hid hcl; have HN0 := Lib.hid n0; have HN1 := Lib.hid n1; have HB2 := Lib.hid hb2; have HW2 := Lib.hid hw2
  have hlt0 : w.heap.size < w2.heap.size := by omega
  have hlt1 : w.heap.size + 1 < w2.heap.size := by omega
  clear hcl n0 n1 hb2 hw2 A1 hin hl d0 d1 hz2
  unfold mfV
  generalize hL : m.segs.length = L at *
  have HL := Lib.hid hL
  clear hL
  go_enter Tryz.func12, Tryz.ntmps12
  go_wp2_with fail
  rw [← HW2.out]
  go_region_with (go_at_call 15
                  with_reducible refine HCL.out.mono ?_
                  rintro er w8 ⟨a2, c2, rfl, n8⟩
                  have x0 := (two_cells ((n8.2.block _ hlt0).trans HN0.out)).1
                  have x1 := (n8.2.block _ hlt1).trans HN1.out
                  obtain ⟨s0, s1, sf, s3⟩ := two_set x1 (.int .i64 m.ver) (.slice a2 L c2)
                  have S3 := Lib.hid s3
                  have X1 := Lib.hid x1
                  have N8 := Lib.hid n8)
  all_goals
    obtain ⟨j0, j1⟩ := two_cells S3.out
    have h8 := N8.out.1
    obtain ⟨a3, c3, e3, hsg⟩ := owns_sgs h8
    have e4 : a3 = a2 := by injection e3 with e3; exact e3.symm
    subst e4
    have hfar : ∀ x, a3 = some x → w2.heap.size ≤ x.block := fun x hx => by
      rcases h8.2 with ⟨e, _⟩ | ⟨g, cap', cur, e, hB, _⟩
      · injection e with e; rw [e] at hx; cases hx
      · injection e with e; rw [e] at hx; cases hx; exact hB
    have HFIN := Lib.hid (far_two hsg (q := w.heap.size + 1) (fun x hx => by have := hfar x hx; omega) (.int .i64 m.ver) (.slice a3 L c2))
    have HBF := Lib.hid ((HB2.out.trans (N8.out.2.mono HB2.out.size)).trans ((two_turn (q := w.heap.size + 1) (G := fun k => w.heap.size ≤ k) (Nat.le_succ _) (.int .i64 m.ver) (.slice a3 L c2)).below (fun k hk => hk) (Nat.le_trans HB2.out.size N8.out.2.size)))
    have hz := HB2.out.size
    clear X1 s0 s1 sf x0 x1 hsg h8 e3 S3
    go_wp2_with fail
    generalize (w8.setCell _ _).setCell _ _ = wf at *
    exact bodyPost_ret (v := .agg #[.int .i64 m.ver, .slice a3 L c2]) (by simp [results, Tryz.results12, go_sem, j0, j1]) rfl ⟨a3, c2, rfl, HFIN.out, fun x hx => by have := hfar x hx; omega, HBF.out⟩
end Go.Proofs.YtkdidinekoaobaaGreatDoor.P
