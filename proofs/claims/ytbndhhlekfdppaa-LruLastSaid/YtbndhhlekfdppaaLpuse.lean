/- The program's cache: the part of its array that is in use; a key is put ahead of all others. -/
import Derived.Test.YtbndhhlekfdppaaLplaid
namespace Go.Proofs.Ytbndhhlekfdppaa.L
open Go.RowKit Go.Maps
set_option linter.unusedVariables false
theorem cell_turn {F : Nat → Prop} {w w' : World} (t : Turn F w w') {g : Nat} (hg : g < w.heap.size) (hF : ¬ F g) (j : Nat) : w'.cell? ⟨g, j, none⟩ = w.cell? ⟨g, j, none⟩ := by
  have := t.block g hg hF
  simp [World.cell?, this]
theorem arrLenK : Try.prog.arrayLen 48 = 64 := by kernel_rfl
theorem arrElemK : Try.prog.elem 48 = 32 := by kernel_rfl
theorem cut_h (pb n : Nat) (hn : n ≤ 64) (w : World) :
    (Instr.sliceAt 48 (.pointer (some ⟨pb, 1, none⟩)) none (some (.int .i64 (n : Int))) none).run Try.prog w = .ok (.slice (some ⟨pb, 1, none⟩) n 64) w := by
  rw [run_sliceAt_array_h w 48 ⟨pb, 1, none⟩ (by kernel_rfl) .i64 (n : Int) (by omega) (by rw [arrLenK]; omega), arrElemK, Try.sizeOf32]
  simp [Result.andThen, slicedAt, Addr.add, arrLenK]
theorem cut_lh (pb n : Nat) (hn : n < 64) (w : World) :
    (Instr.sliceAt 48 (.pointer (some ⟨pb, 1, none⟩)) (some (.int .i64 1)) (some (.int .i64 ((n : Int) + 1))) none).run Try.prog w = .ok (.slice (some ⟨pb, 3, none⟩) n 63) w := by
  rw [run_sliceAt_array_lh w 48 ⟨pb, 1, none⟩ (by kernel_rfl) .i64 .i64 1 ((n : Int) + 1) (by omega) (by omega) (by rw [arrLenK]; omega), arrElemK, Try.sizeOf32]
  have e : ((n : Int) + 1).toNat = n + 1 := by omega
  simp [Result.andThen, slicedAt, Addr.add, arrLenK, e]
section
variable {B pb mb most : Nat} {os : List Bk} {l : List It} {w : World}
set_option maxHeartbeats 1000000 in
theorem porder_any (h : Pm B w pb mb most os l) (hl : l.length ≤ 64) :
    Calls Try.prog 19 #[.pointer (some ⟨pb, 0, none⟩)] w fun e w' => e = .returned (.slice (some ⟨pb, 1, none⟩) l.length 64) ∧ Below w.heap.size w w' := by
  have c0 := h.head
  have hln : ∀ ty, (Builtin.len_ #[47] ty #[.map (some mb)]).run Try.prog w = .ok (.int .i64 ((l.length : Nat) : Int)) w := fun ty => h.map.len ty
  have hlq : ∀ ty, (Builtin.len_ #[47] ty #[.map (some mb)]).run Try.prog w.drew = .ok (.int .i64 ((l.length : Nat) : Int)) w.drew := fun ty => (show MapI w.drew mb l from h.map).len ty
  have hcut := cut_h pb l.length hl w.drew
  clear h
  generalize l.length = n at *
  go_enter Try.func19, Try.ntmps19
  go_wp2
  go_region
  go_wp2
  go_ret
  exact ⟨rfl, below_drewN (Below.refl _ _) 1⟩
set_option maxHeartbeats 1000000 in
/-- What stands at i is put ahead of all others. -/
theorem puse_any (h : Pm B w pb mb most os l) (hl : l.length ≤ 64) {i : Nat} {b : Bk} (hi : i < l.length) (hb : os[i]? = some b) (hno : ∀ j, j < i → os[j]? ≠ some b) :
    Calls Try.prog 16 #[.pointer (some ⟨pb, 0, none⟩), blkV b] w fun e w' => e = .returned (.tuple #[]) ∧ Pm B w' pb mb most (b :: (os.take i ++ os.drop (i + 1))) l ∧ Turn (fun k => k = pb) w w' := by
  have hb0 : Below w.heap.size w (w.alloc (.cells #[.int .i64 b.seg, .int .i64 b.n] 32)) := (Below.refl _ _).alloc (Nat.le_refl _) _
  have y0 := heap_alloc_new w (.cells #[.int .i64 b.seg, .int .i64 b.n] 32)
  have HP := Lib.hid (h.below hb0)
  have HI := Lib.hid (And.intro hl (And.intro hi (And.intro hb hno)))
  have HB0 := Lib.hid hb0
  have hin : pb < w.heap.size := h.lt.1
  obtain ⟨bb, hbb⟩ : ∃ bb, bb = w.heap.size := ⟨_, rfl⟩
  clear h hb0 hno hb hl hi
  unfold blkV
  go_enter Try.func16, Try.ntmps16
  go_wp2
  generalize hW0 : World.alloc w _ = W0 at *
  rw [← hbb] at y0 ⊢
  have hcl := fun t => cell_of_row W0 bb t _ _ (0, 0) y0
  have f0 := hcl 0; have f1 := hcl 1
  simp only [List.getElem?_toArray, List.getElem?_cons_succ, List.getElem?_cons_zero] at f0 f1
  have HBB := Lib.hid hbb
  clear hcl hW0 hbb
  have HO := Lib.hid (fun (W : World) (hW : Old W0 W) => porder_any (HP.out.below hW) HI.out.1)
  have HX := Lib.hid (fun (W : World) (hW : Old W0 W) => index_any (c := 64) (HP.out.below hW) HI.out.1 HI.out.2.1 HI.out.2.2.1 HI.out.2.2.2)
  have c0 : ∀ W, Old W0 W → W.cell? ⟨bb, 0, none⟩ = some (.int .i64 b.seg) := fun W hW => (hW.cell (p := ⟨bb, 0, none⟩) (World.block_lt_of_cell? _ _ f0)).trans f0
  have c1 : ∀ W, Old W0 W → W.cell? ⟨bb, 1, none⟩ = some (.int .i64 b.n) := fun W hW => (hW.cell (p := ⟨bb, 1, none⟩) (World.block_lt_of_cell? _ _ f1)).trans f1
  have K0 : Old W0 W0 := Old.refl _
  have HBL := Lib.hid (show bb < W0.heap.size from World.block_lt_of_cell? _ _ f0)
  go_wp2
  clear f0 f1 y0
  unfold blkV at HX
  obtain ⟨N, hN⟩ : ∃ N, N = l.length := ⟨_, rfl⟩
  have HN := Lib.hid hN
  rw [← hN] at HX HO
  clear hN
  go_region_held3 (fun W => Old W0 W) (first | assumption | exact K0 | exact K0.drew | exact Old.drew ‹_›)
    (first
      | (go_at_call 19
         (with_reducible refine (HO.out _ (by first | assumption | exact K0 | exact K0.drew | exact Old.drew ‹_›)).mono ?_)
         rintro e8 w8 ⟨rfl, hb8⟩
         have hO8 : Old W0 w8 := Old.below (by first | assumption | exact K0 | exact K0.drew | exact Old.drew ‹_›) (hb8.mono (Below.size (by first | assumption | exact K0 | exact K0.drew | exact Old.drew ‹_›))))
      | (go_at_call 21
         (with_reducible refine (HX.out _ (by first | assumption | exact K0 | exact K0.drew | exact Old.drew ‹_›)).mono ?_)
         rintro e9 w9 ⟨rfl, hb9⟩
         have hO9 : Old W0 w9 := Old.below (by first | assumption | exact K0 | exact K0.drew | exact Old.drew ‹_›) (hb9.mono (Below.size (by first | assumption | exact K0 | exact K0.drew | exact Old.drew ‹_›)))))
  have HP9 : Pm B w9.drew pb mb most os l := HP.out.below (hO9.drew)
  have hi64 : i < 64 := by have := HI.out; omega
  obtain ⟨w', hr, hp2, ht2⟩ := HP9.copy hi64
  have s1 := cut_lh pb i hi64 w9.drew
  have s2 := cut_h pb i (by omega) w9.drew
  have hwi : IntKind.i64.wrap ((i : Int) + 1) = (i : Int) + 1 := IntWalk.i64_in _ ⟨by omega, by omega⟩
  clear K0
  have H2 := Lib.hid (And.intro hp2 ht2)
  have HO9 := Lib.hid hO9
  clear hp2 ht2 hO9 HP9 HO HX
  have K0 := Lib.hid (fun (W : World) (hW : Old W0 W) => And.intro (c0 W hW) (c1 W hW))
  clear c0 c1
  go_wp2
  go_region
  obtain ⟨o2, ho2⟩ : ∃ o2, o2 = os.take 1 ++ os.take i ++ os.drop (i + 1) := ⟨_, rfl⟩
  rw [← ho2] at H2
  have HO2 := Lib.hid ho2
  clear ho2 s1 s2 hr hwi
  have h2l := H2.out.1.len
  obtain ⟨x, hx⟩ : ∃ x, o2[0]? = some x := ⟨_, List.getElem?_eq_getElem (by omega)⟩
  obtain ⟨p1, p2⟩ := H2.out.1.key hx
  have z1 := H2.out.1.free 1
  have z2 := H2.out.1.free 2
  rw [Nat.zero_mul, Nat.add_zero] at p1 p2
  have f0 : w'.cell? ⟨bb, 0, none⟩ = some (.int .i64 b.seg) := (cell_turn H2.out.2 (by show bb < w9.heap.size; have := HO9.out.size; have := HBL.out; omega) (by have := HBB.out; show bb ≠ pb; omega) 0).trans (K0.out w9 HO9.out).1
  have f1 : w'.cell? ⟨bb, 1, none⟩ = some (.int .i64 b.n) := (cell_turn H2.out.2 (by show bb < w9.heap.size; have := HO9.out.size; have := HBL.out; omega) (by have := HBB.out; show bb ≠ pb; omega) 1).trans (K0.out w9 HO9.out).2
  clear hx h2l
  go_wp2
  go_region
  go_wp2
  have hset := H2.out.1.set (i := 0) (by omega) b
  have e0 : o2.set 0 b = b :: (os.take i ++ os.drop (i + 1)) := by
    rw [HO2.out]
    have hlen := HP.out.len
    obtain ⟨y, r, hy⟩ : ∃ y r, os = y :: r := by
      cases os with
      | nil => simp at hlen
      | cons y r => exact ⟨y, r, rfl⟩
    rw [hy]
    simp
  rw [e0] at hset
  go_end0
  refine ⟨rfl, hset.1.below (below_drewN (Below.refl _ _) 1), ?_⟩
  have t1 : Turn (fun k => k = pb) w w9.drew := Turn.of_below _ ((HB0.out.trans (Below.mono HO9.out HB0.out.size)).drew) (Nat.le_refl _)
  exact ((t1.trans H2.out.2).trans hset.2).drew 1
end
end Go.Proofs.Ytbndhhlekfdppaa.L
