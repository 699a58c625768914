/- What is asked of the program's merge; the first, small test of every law of layer 15. -/
import Derived.Test.YtfcfleeiffmjdaaGref3
namespace Go.Proofs.Ytfcfleeiffmjdaa.G
open Go.RowKit
set_option linter.unusedVariables false
set_option linter.unusedSimpArgs false

/-- A slice of lists of records in memory, each with its room. -/
def BatsK (w : World) (a : Option Addr) (ll : List (List Rc)) : Prop :=
  ∀ i (h : i < ll.length), ∃ b off, a = some ⟨b, off, none⟩ ∧ b < w.heap.size ∧ ∃ a' cap', w.cell? ⟨b, off + i, none⟩ = some (.slice a' ll[i].length cap') ∧ ll[i].length ≤ cap' ∧ cap' ≤ maxLen ∧ Recs w a' ll[i]
theorem BatsK.bats {w : World} {a : Option Addr} {ll : List (List Rc)} (h : BatsK w a ll) : Bats w a ll := fun h0 => by
  obtain ⟨b, off, ha, hb, _⟩ := h 0 h0
  refine ⟨b, off, ha, hb, fun i hi => ?_⟩
  obtain ⟨b', off', ha', _, a', cap', h1, _, _, h2⟩ := h i hi
  rw [ha] at ha'
  cases ha'
  exact ⟨a', cap', h1, h2⟩
theorem BatsK.later {w w' : World} {a : Option Addr} {ll : List (List Rc)} (h : BatsK w a ll) {B : Nat} (hb : Below B w w') (hB : w.heap.size ≤ B) : BatsK w' a ll := fun i hi => by
  obtain ⟨b, off, ha, hl, a', cap', h1, h2, h3, h4⟩ := h i hi
  exact ⟨b, off, ha, Nat.lt_of_lt_of_le hl hb.size, a', cap', (hb.cell (p := ⟨b, off + i, none⟩) (by show b < B; omega)).trans h1, h2, h3, h4.later hb hB⟩
/-- A slice of lists as an argument. -/
def Lst (w : World) (a : Option Addr) (cap : Nat) (ll : List (List Rc)) : Prop := BatsK w a ll ∧ ll.length ≤ cap ∧ cap ≤ maxLen ∧ (a = none → cap = 0)
theorem Lst.later {w w' : World} {a : Option Addr} {cap : Nat} {ll : List (List Rc)} (h : Lst w a cap ll) {B : Nat} (hb : Below B w w') (hB : w.heap.size ≤ B) : Lst w' a cap ll := ⟨h.1.later hb hB, h.2⟩
/-- What a call leaves that tells records. -/
def RecsPost (w : World) (l : List Rc) (e : Ending) (w' : World) : Prop := ∃ v, e = .returned v ∧ Rw w' w.heap.size v l ∧ Below w.heap.size w w'
/-- What is asked. -/
structure MrgC : Prop where
  newest : ∀ {ll a cap w}, Lst w a cap ll → Room ll → Came2 ll → Calls Try.prog 12 #[.slice a ll.length cap] w (RecsPost w (nw ll.flatten))
  live : ∀ {ll a cap w}, Lst w a cap ll → Room ll → Came2 ll → Calls Try.prog 13 #[.slice a ll.length cap] w (RecsPost w (live ll.flatten))
  merge : ∀ {elder ll a cap w}, Lst w a cap ll → Room ll → Came2 ll → Calls Try.prog 14 #[.bool elder, .slice a ll.length cap] w (RecsPost w (mrg elder ll.flatten))
  batches : ∀ {l a cap w}, Recs w a l → l.length ≤ 1000000 → l.length ≤ cap → cap ≤ maxLen → (∀ r ∈ l, Came r) →
    Calls Try.prog 16 #[.slice a l.length cap] w fun e w' => ∃ a' cap', e = .returned (.slice a' (bat l).length cap') ∧ Bats w' a' (bat l) ∧ Below w.heap.size w w'

theorem lst_one {W : World} {b : Nat} {a : Option Addr} {cap : Nat} {l : List Rc} (h : W.heap[b]? = some (.cells #[.slice a l.length cap] 25 (0, 0))) (hc : l.length ≤ cap) (hm : cap ≤ maxLen) (hr : Recs W a l) : Lst W (some ⟨b, 0, none⟩) 1 [l] := by
  refine ⟨fun i hi => ?_, Nat.le_refl _, by unfold maxLen; omega, fun h => by cases h⟩
  have : i = 0 := by simp at hi; omega
  subst this
  exact ⟨b, 0, rfl, (Array.getElem?_eq_some_iff.1 h).1, a, cap, by rw [cell_of_row W b _ _ _ (0, 0) h]; rfl, hc, hm, hr⟩
theorem lst_two {W : World} {b : Nat} {a a' : Option Addr} {cap cap' : Nat} {l l' : List Rc} (h : W.heap[b]? = some (.cells #[.slice a l.length cap, .slice a' l'.length cap'] 25 (0, 0))) (hc : l.length ≤ cap) (hm : cap ≤ maxLen) (hr : Recs W a l) (hc' : l'.length ≤ cap') (hm' : cap' ≤ maxLen) (hr' : Recs W a' l') : Lst W (some ⟨b, 0, none⟩) 2 [l, l'] := by
  refine ⟨fun i hi => ?_, Nat.le_refl _, by unfold maxLen; omega, fun h => by cases h⟩
  have hb := (Array.getElem?_eq_some_iff.1 h).1
  match i, hi with
  | 0, _ => exact ⟨b, 0, rfl, hb, a, cap, by rw [cell_of_row W b _ _ _ (0, 0) h]; rfl, hc, hm, hr⟩
  | 1, _ => exact ⟨b, 0, rfl, hb, a', cap', by rw [cell_of_row W b _ _ _ (0, 0) h]; rfl, hc', hm', hr'⟩

def ra : Rc := ⟨1, [97], [120], false⟩
def rb : Rc := ⟨3, [97], [], true⟩
def rc : Rc := ⟨2, [98], [121], false⟩
theorem nw_abc : nw [ra, rb, rc] = [rb, rc] := by kernel_rfl
theorem live_abc : live [ra, rb, rc] = [rc] := by kernel_rfl
theorem came_abc : ∀ r ∈ [ra, rb, rc], Came r := fun r hr => by
  simp only [List.mem_cons, List.not_mem_nil, or_false] at hr
  rcases hr with rfl | rfl | rfl <;> exact ⟨by simp [ra, rb, rc], by unfold maxLen; simp [ra, rb, rc], by unfold maxLen; simp [ra, rb, rc]⟩

theorem came2_abc : Came2 [[ra, rb, rc]] ∧ Came2 [[ra], [rb, rc]] := by
  refine ⟨fun l hl => ?_, fun l hl => ?_⟩
  · simp only [List.mem_cons, List.not_mem_nil, or_false] at hl
    subst hl
    exact ⟨by unfold maxLen; simp, came_abc⟩
  · simp only [List.mem_cons, List.not_mem_nil, or_false] at hl
    rcases hl with rfl | rfl
    · exact ⟨by unfold maxLen; simp, fun r hr => came_abc r (by simp at hr; subst hr; simp)⟩
    · exact ⟨by unfold maxLen; simp, fun r hr => came_abc r (by simp at hr ⊢; exact Or.inr hr)⟩
/-- The three records of the small test. -/
def L3 (W : World) (b : Nat) : Prop := W.heap[b]? = some (.cells #[.int .u64 1, .string ⟨#[97]⟩, .string ⟨#[120]⟩, .bool false, .int .u64 3, .string ⟨#[97]⟩, .string ⟨#[]⟩, .bool true, .int .u64 2, .string ⟨#[98]⟩, .string ⟨#[121]⟩, .bool false] 35 (0, 0))
theorem L3.later {W W' : World} {b : Nat} (h : L3 W b) (hb : Below W.heap.size W W') : L3 W' b := (hb.block b (Array.getElem?_eq_some_iff.1 h).1).trans h
theorem L3.cell {W : World} {b : Nat} (h : L3 W b) (j : Nat) : W.cell? ⟨b, j, none⟩ = (#[.int .u64 1, .string ⟨#[97]⟩, .string ⟨#[120]⟩, .bool false, .int .u64 3, .string ⟨#[97]⟩, .string ⟨#[]⟩, .bool true, .int .u64 2, .string ⟨#[98]⟩, .string ⟨#[121]⟩, .bool false] : Array Value)[j]? := cell_of_row W b j _ _ (0, 0) h
theorem L3.recs {W : World} {b : Nat} (h : L3 W b) : Recs W (some ⟨b, 0, none⟩) [ra, rb, rc] := fun _ => by
  refine ⟨b, 0, rfl, (Array.getElem?_eq_some_iff.1 h).1, fun i hi => ?_⟩
  match i, hi with
  | 0, _ => exact ⟨by rw [h.cell]; rfl, by rw [h.cell]; rfl, by rw [h.cell]; rfl, by rw [h.cell]; rfl⟩
  | 1, _ => exact ⟨by rw [h.cell]; rfl, by rw [h.cell]; rfl, by rw [h.cell]; rfl, by rw [h.cell]; rfl⟩
  | 2, _ => exact ⟨by rw [h.cell]; rfl, by rw [h.cell]; rfl, by rw [h.cell]; rfl, by rw [h.cell]; rfl⟩
theorem L3.one {W : World} {b : Nat} (h : L3 W b) : Recs W (some ⟨b, 0, none⟩) [ra] := by have := recs_piece h.recs 0 1 (by decide); exact this
theorem L3.two {W : World} {b : Nat} (h : L3 W b) : Recs W (some ⟨b, 4, none⟩) [rb, rc] := by have := recs_piece h.recs 1 2 (by decide); exact this
theorem room_abc : Room [[ra, rb, rc]] ∧ Room [[ra], [rb, rc]] := ⟨⟨by decide, by decide, by decide⟩, by decide, by decide, by decide⟩
set_option maxRecDepth 100000 in
set_option maxHeartbeats 4000000 in
theorem awake_any (C : MrgC) (w : World) : Calls Try.prog 7 #[] w fun e w' => e = .returned (.bool true) ∧ Below w.heap.size w w' := by
  have HC := Lib.hid C
  have hl0 := heap_alloc_new w (.cells #[.int .u64 1, .string ⟨#[97]⟩, .string ⟨#[120]⟩, .bool false, .int .u64 3, .string ⟨#[97]⟩, .string ⟨#[]⟩, .bool true, .int .u64 2, .string ⟨#[98]⟩, .string ⟨#[121]⟩, .bool false] 35)
  have hb0 := (Old.refl w).alloc (.cells #[.int .u64 1, .string ⟨#[97]⟩, .string ⟨#[120]⟩, .bool false, .int .u64 3, .string ⟨#[97]⟩, .string ⟨#[]⟩, .bool true, .int .u64 2, .string ⟨#[98]⟩, .string ⟨#[121]⟩, .bool false] 35)
  have HL0 := Lib.hid hl0; have HB0 := Lib.hid hb0
  clear hl0 hb0
  go_enter Try.func7, Try.ntmps7
  go_wp2_with fail
  have hl3 : L3 (w.alloc (.cells #[.int .u64 1, .string ⟨#[97]⟩, .string ⟨#[120]⟩, .bool false, .int .u64 3, .string ⟨#[97]⟩, .string ⟨#[]⟩, .bool true, .int .u64 2, .string ⟨#[98]⟩, .string ⟨#[121]⟩, .bool false] 35)) w.heap.size := HL0.out
  have hb1 := HB0.out.alloc (.cells #[.slice (some ⟨w.heap.size, 0, none⟩) 3 3] 25)
  obtain ⟨h1, h2⟩ := two_blocks w #[.int .u64 1, .string ⟨#[97]⟩, .string ⟨#[120]⟩, .bool false, .int .u64 3, .string ⟨#[97]⟩, .string ⟨#[]⟩, .bool true, .int .u64 2, .string ⟨#[98]⟩, .string ⟨#[121]⟩, .bool false] #[.slice (some ⟨w.heap.size, 0, none⟩) 3 3] 35 25
  have hl4 : L3 ((w.alloc (.cells #[.int .u64 1, .string ⟨#[97]⟩, .string ⟨#[120]⟩, .bool false, .int .u64 3, .string ⟨#[97]⟩, .string ⟨#[]⟩, .bool true, .int .u64 2, .string ⟨#[98]⟩, .string ⟨#[121]⟩, .bool false] 35)).alloc (.cells #[.slice (some ⟨w.heap.size, 0, none⟩) 3 3] 25)) w.heap.size := h1
  have hlst := lst_one (l := [ra, rb, rc]) (cap := 3) h2 (by decide) (by unfold maxLen; omega) hl4.recs
  have H1 := HC.out.newest hlst room_abc.1 came2_abc.1
  have HL4 := Lib.hid hl4; have HB1 := Lib.hid hb1
  rw [show [[ra, rb, rc]].flatten = [ra, rb, rc] from rfl, nw_abc] at H1
  clear HL0 HB0 hl3 hb1 h1 h2 hl4 hlst
  generalize World.alloc (w.alloc _) _ = w1 at *
  refine H1.mono ?_
  rintro e w2 ⟨v, rfl, hr2, b2⟩
  have HL2 := Lib.hid (HL4.out.later b2)
  have HB2 := Lib.hid (HB1.out.below b2)
  obtain ⟨a, c, rfl, hc1, hc2⟩ := rw_form hr2
  obtain ⟨g, rfl, hBg, hgl, x0, x1, x2, x3, _⟩ := rw_at hr2 (i := 0) (r := rb) rfl
  obtain ⟨_, he, _, _, y0, y1, y2, y3, _⟩ := rw_at hr2 (i := 1) (r := rc) rfl
  cases he
  have hgl2 := hgl
  generalize hlb : w.heap.size = lb at *
  clear H1 b2 hr2 HB1 HL4
  have HL : Hid (∀ W, W.heap[w2.heap.size]? = some (.cells #[.slice (some ⟨lb, 0, none⟩) 1 3, .slice (some ⟨lb, 4, none⟩) 2 2] 25 (0, 0)) → Old w2 W → Calls Try.prog 13 #[.slice (some ⟨w2.heap.size, 0, none⟩) 2 2] W fun e w' => ∃ v, e = .returned v ∧ Rw w' w2.heap.size v [rc] ∧ Old w2 w') :=
    Lib.hid (fun W hW hO => by
      have h3 := HL2.out.later hO
      have h := HC.out.live (lst_two (l := [ra]) (l' := [rb, rc]) hW (by decide) (by unfold maxLen; omega) h3.one (by decide) (by unfold maxLen; omega) h3.two) room_abc.2 came2_abc.2
      rw [show [[ra], [rb, rc]].flatten = [ra, rb, rc] from rfl, live_abc] at h
      exact h.mono fun e w' ⟨v, h1, h2, h3⟩ => ⟨v, h1, h2.base hO.size, hO.below h3⟩)
  have K0 := Old.refl w2
  go_wp2_with fail
  go_region_held3 (fun W => Old w2 W) (first | assumption | exact K0 | exact K0.drew | exact (Old.alloc K0 _).drew | exact Old.drew ‹_›)
    (first
      | (go_at_call 13
         refine (HL.out _ (drew_block (heap_alloc_new w2 _)) (Old.alloc K0 _).drew).mono ?_
         rintro e w3 ⟨v3, rfl, hr3, hO3⟩
         obtain ⟨a3, c3, rfl, hc3, hm3⟩ := rw_form hr3
         obtain ⟨g3, rfl, hBg3, hgl3, z0, z1, z2, z3, _⟩ := rw_at hr3 (i := 0) (r := rc) rfl
         try dsimp only))
  have HO3 := Lib.hid hO3
  have hg3 : g < w3.heap.size := Nat.lt_of_lt_of_le hgl2 (Below.size hO3)
  have HL33 := Lib.hid (HL2.out.later hO3)
  have HW3 := Lib.hid (HB2.out.below hO3)
  have p0 : ∀ W, Old w3 W → W.cell? ⟨g, 0, none⟩ = some (.int .u64 3) := fun W hW => (Below.cell (p := ⟨g, 0, none⟩) hW (by show g < w3.heap.size; exact hg3)).trans ((Below.cell (p := ⟨g, 0, none⟩) HO3.out hgl2).trans x0)
  have p1 : ∀ W, Old w3 W → W.cell? ⟨g, 1, none⟩ = some (.string ⟨#[97]⟩) := fun W hW => (Below.cell (p := ⟨g, 1, none⟩) hW (by show g < w3.heap.size; exact hg3)).trans ((Below.cell (p := ⟨g, 1, none⟩) HO3.out hgl2).trans x1)
  have p2 : ∀ W, Old w3 W → W.cell? ⟨g, 2, none⟩ = some (.string ⟨#[]⟩) := fun W hW => (Below.cell (p := ⟨g, 2, none⟩) hW (by show g < w3.heap.size; exact hg3)).trans ((Below.cell (p := ⟨g, 2, none⟩) HO3.out hgl2).trans x2)
  have p3 : ∀ W, Old w3 W → W.cell? ⟨g, 3, none⟩ = some (.bool true) := fun W hW => (Below.cell (p := ⟨g, 3, none⟩) hW (by show g < w3.heap.size; exact hg3)).trans ((Below.cell (p := ⟨g, 3, none⟩) HO3.out hgl2).trans x3)
  have q0 : ∀ W, Old w3 W → W.cell? ⟨g, 4, none⟩ = some (.int .u64 2) := fun W hW => (Below.cell (p := ⟨g, 4, none⟩) hW (by show g < w3.heap.size; exact hg3)).trans ((Below.cell (p := ⟨g, 4, none⟩) HO3.out hgl2).trans y0)
  have q1 : ∀ W, Old w3 W → W.cell? ⟨g, 5, none⟩ = some (.string ⟨#[98]⟩) := fun W hW => (Below.cell (p := ⟨g, 5, none⟩) hW (by show g < w3.heap.size; exact hg3)).trans ((Below.cell (p := ⟨g, 5, none⟩) HO3.out hgl2).trans y1)
  have q2 : ∀ W, Old w3 W → W.cell? ⟨g, 6, none⟩ = some (.string ⟨#[121]⟩) := fun W hW => (Below.cell (p := ⟨g, 6, none⟩) hW (by show g < w3.heap.size; exact hg3)).trans ((Below.cell (p := ⟨g, 6, none⟩) HO3.out hgl2).trans y2)
  have q3 : ∀ W, Old w3 W → W.cell? ⟨g, 7, none⟩ = some (.bool false) := fun W hW => (Below.cell (p := ⟨g, 7, none⟩) hW (by show g < w3.heap.size; exact hg3)).trans ((Below.cell (p := ⟨g, 7, none⟩) HO3.out hgl2).trans y3)
  have s0 : ∀ W, Old w3 W → W.cell? ⟨g3, 0, none⟩ = some (.int .u64 2) := fun W hW => (Below.cell (p := ⟨g3, 0, none⟩) hW hgl3).trans z0
  have s1 : ∀ W, Old w3 W → W.cell? ⟨g3, 1, none⟩ = some (.string ⟨#[98]⟩) := fun W hW => (Below.cell (p := ⟨g3, 1, none⟩) hW hgl3).trans z1
  have s2 : ∀ W, Old w3 W → W.cell? ⟨g3, 2, none⟩ = some (.string ⟨#[121]⟩) := fun W hW => (Below.cell (p := ⟨g3, 2, none⟩) hW hgl3).trans z2
  have s3 : ∀ W, Old w3 W → W.cell? ⟨g3, 3, none⟩ = some (.bool false) := fun W hW => (Below.cell (p := ⟨g3, 3, none⟩) hW hgl3).trans z3
  have t0 : ∀ W, Old w3 W → W.cell? ⟨lb, 4, none⟩ = some (.int .u64 3) := fun W hW => (HL33.out.later hW).cell 4
  have t1 : ∀ W, Old w3 W → W.cell? ⟨lb, 5, none⟩ = some (.string ⟨#[97]⟩) := fun W hW => (HL33.out.later hW).cell 5
  have t2 : ∀ W, Old w3 W → W.cell? ⟨lb, 6, none⟩ = some (.string ⟨#[]⟩) := fun W hW => (HL33.out.later hW).cell 6
  have t3 : ∀ W, Old w3 W → W.cell? ⟨lb, 7, none⟩ = some (.bool true) := fun W hW => (HL33.out.later hW).cell 7
  have t4 : ∀ W, Old w3 W → W.cell? ⟨lb, 8, none⟩ = some (.int .u64 2) := fun W hW => (HL33.out.later hW).cell 8
  have t5 : ∀ W, Old w3 W → W.cell? ⟨lb, 9, none⟩ = some (.string ⟨#[98]⟩) := fun W hW => (HL33.out.later hW).cell 9
  have t6 : ∀ W, Old w3 W → W.cell? ⟨lb, 10, none⟩ = some (.string ⟨#[121]⟩) := fun W hW => (HL33.out.later hW).cell 10
  have t7 : ∀ W, Old w3 W → W.cell? ⟨lb, 11, none⟩ = some (.bool false) := fun W hW => (HL33.out.later hW).cell 11
  have HBT : Hid (∀ W, Old w3 W → Calls Try.prog 16 #[.slice (some ⟨lb, 0, none⟩) 3 3] W fun e w' => ∃ a' cap', e = .returned (.slice a' 1 cap') ∧ Old w3 w') :=
    Lib.hid (fun W hW => (HC.out.batches (cap := 3) (HL33.out.later hW).recs (by decide) (by decide) (by unfold maxLen; omega) came_abc).mono fun e w' ⟨a', cap', h1, _, h3⟩ => ⟨a', cap', h1, hW.below h3⟩)
  have K3 := Old.refl w3
  simp only [List.length_cons, List.length_nil, Nat.zero_add] at hc3 ⊢
  have hc2' : 2 ≤ c := hc1
  clear x0 x1 x2 x3 y0 y1 y2 y3 z0 z1 z2 z3 hO3 hr3 K0 HL HC HL2 HL33 hc1
  go_wp2_with fail
  go_region_held3 (fun W => Old w3 W) (first | assumption | exact K3 | exact K3.drew | exact Old.drew ‹_›)
    (first
      | (go_at_call 16
         refine (HBT.out _ (by first | assumption | exact K3.drew | exact Old.drew ‹_›)).mono ?_
         rintro e w5 ⟨a5, c5, rfl, hO5⟩
         try dsimp only))
  have HF := Lib.hid (HW3.out.below hO5)
  clear p0 p1 p2 p3 q0 q1 q2 q3 s0 s1 s2 s3 t0 t1 t2 t3 t4 t5 t6 t7
  go_wp2_with fail
  go_ret
  exact ⟨rfl, HF.out⟩
end Go.Proofs.Ytfcfleeiffmjdaa.G
