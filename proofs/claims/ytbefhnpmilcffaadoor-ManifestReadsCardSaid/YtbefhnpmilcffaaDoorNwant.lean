/- What is asked of the program's manifests; the first, small test of every law of layer 12. -/
import Derived.Test.YtbefhnpmilcffaaDoorNread
import Derived.Test.YtbefhnpmilcffaaDoorNnames
import Derived.Test.YtbefhnpmilcffaaDoorNvars
namespace Go.Proofs.YtbefhnpmilcffaaDoor.J
open Go.RowKit
set_option linter.unusedVariables false
set_option linter.unusedSimpArgs false

def i64 (n : Int) : Prop := -9223372036854775808 ≤ n ∧ n ≤ 9223372036854775807
def Sg.fit (s : Sg) : Prop := i64 s.n ∧ i64 s.size ∧ s.sum < 4294967296
def Mf.fit (m : Mf) : Prop := i64 m.ver ∧ ∀ s ∈ m.segs, s.fit
theorem Mf.fit.wf {m : Mf} (h : m.fit) : m.wf := fun s hs => (h.2 s hs).2.2
/-- What is asked. -/
structure ManC : Prop where
  right : ∀ {m a cap w}, SgsIn w a m.segs → m.segs.length ≤ 1000 → m.fit → Calls Tryd.prog 14 #[mfV m.ver a m.segs.length cap] w fun e w' => e = .returned (.bool (right m)) ∧ Below w.heap.size w w'
  bytes : ∀ {m a cap w}, SgsIn w a m.segs → m.segs.length ≤ 1000 → m.fit → Calls Tryd.prog 8 #[mfV m.ver a m.segs.length cap] w fun e w' => e = .returned (.tuple #[.string (bs (mbs m).1), .int .i64 ((mbs m).2 : Nat)]) ∧ Below w.heap.size w w'
  read : ∀ {b : List UInt8} {w}, b.length ≤ 5000 → Calls Tryd.prog 11 #[.string (bs b)] w (RdPost w b)
  name : ∀ {v w}, Vt w → i64 v → Calls Tryd.prog 20 #[.int .i64 v] w fun e w' => e = .returned (.string (bs (nm v))) ∧ Below w.heap.size w w'
  ver : ∀ {s : List UInt8} {w}, Vt w → s.length ≤ 1000 → Calls Tryd.prog 16 #[.string (bs s)] w fun e w' => e = .returned (.tuple #[.int .i64 (vr s).1, .bool (vr s).2]) ∧ Below w.heap.size w w'
  object : ∀ {v w}, Vt w → i64 v → Calls Tryd.prog 22 #[.int .i64 v] w fun e w' => e = .returned (.string (bs (ob v))) ∧ Below w.heap.size w w'
  of : ∀ {n : Int} {b : List UInt8} {w}, i64 n → b.length ≤ 5000 → Calls Tryd.prog 18 #[.int .i64 n, .string (bs b)] w fun e w' => e = .returned (.agg #[.int .i64 n, .int .i64 (b.length : Nat), .int .u32 (sum b : Nat)]) ∧ Below w.heap.size w w'

theorem mrd_fit (b : List UInt8) : (mrd b).1.fit := by
  have h0 : noMf.fit := ⟨by unfold i64 noMf; simp, fun s hs => by simp [noMf] at hs⟩
  rcases mrd_cases b with ⟨m, hm, e⟩ | ⟨e, _⟩ | ⟨e, _⟩
  · rw [e]
    refine ⟨by have := hm.1.1; show i64 m.ver; unfold i64; omega, fun s hs => ?_⟩
    have := sok_mem hm.1.2.2 hs
    exact ⟨by unfold i64; omega, by unfold i64; omega, hm.2.1 s hs⟩
  · rw [e]; exact h0
  · rw [e]; exact h0
theorem mrd_len (b : List UInt8) : (mrd b).1.segs.length ≤ 200 := by
  rcases mrd_cases b with ⟨m, hm, e⟩ | ⟨e, _⟩ | ⟨e, _⟩
  · rw [e]; exact hm.1.2.1
  · rw [e]; simp [noMf]
  · rw [e]; simp [noMf]
theorem mrd_err (b : List UInt8) : (mrd b).2 ≤ 4 := by
  rcases mrd_cases b with ⟨m, hm, e⟩ | ⟨e, _⟩ | ⟨e, _⟩ <;> rw [e] <;> simp

/-! ### the small test -/
def m1 (c : Nat) : Mf := ⟨7, [⟨3, 3, c⟩]⟩
theorem right1 (c : Nat) : Right (m1 c) := by
  refine ⟨by simp [m1], by simp [m1], fun j hj s hs => ?_⟩
  simp only [m1, List.length_cons, List.length_nil] at hj
  obtain rfl : j = 0 := by omega
  simp only [m1, List.getElem?_cons_zero, Option.some.injEq] at hs
  subst hs
  exact ⟨by simp, by simp, fun h => by omega⟩
theorem fit1 {c : Nat} (hc : c < 4294967296) : (m1 c).fit := ⟨by unfold i64 m1; simp, fun s hs => by
  simp only [m1, List.mem_singleton] at hs
  subst hs
  exact ⟨by unfold i64; simp, by unfold i64; simp, hc⟩⟩
theorem read1 {c : Nat} (hc : c < 4294967296) : mrd (mbs (m1 c)).1 = (m1 c, 0) := by
  rw [mbs_yes (right1 c)]
  exact mrd_yes ⟨right1 c, (fit1 hc).wf, rfl⟩
theorem len1 {c : Nat} (hc : c < 4294967296) : (mbs (m1 c)).1.length ≤ 100 := by
  rw [mbs_yes (right1 c)]
  have := pre_len (right1 c) (fit1 hc).wf (m1 c).segs.length (Nat.le_refl _)
  rw [pre_all] at this
  simp only [m1, List.length_cons, List.length_nil] at this
  simp only [seal4, List.length_append, four_length]
  simp only [m1]
  omega

set_option maxRecDepth 100000 in
set_option maxHeartbeats 2000000 in
theorem awake_any (C : ManC) (w : World) (hV : Vt w) : Calls Tryd.prog 7 #[] w fun e w' => e = .returned (.bool true) ∧ Below w.heap.size w w' := by
  have hc := sum_lt [97, 98, 99]
  have HOF := Lib.hid (C.of (n := 3) (b := [97, 98, 99]) (w := w) (by unfold i64; omega) (by simp))
  rw [show bs [97, 98, 99] = (⟨#[97, 98, 99]⟩ : ByteArray) from rfl, show (([97, 98, 99] : List UInt8).length : Int) = 3 from rfl] at HOF
  generalize sum [97, 98, 99] = c at *
  have HC := Lib.hid C; have HVT := Lib.hid hV
  clear hV
  go_enter Tryd.func7, Tryd.ntmps7
  go_wp2_with fail
  refine HOF.out.mono ?_
  rintro e w1 ⟨rfl, b1⟩
  go_wp2_with fail
  obtain ⟨w2, hw2⟩ : ∃ w2, w2 = ((w1.alloc (.cells #[.int .i64 3, .int .i64 3, .int .u32 (c : Int)] 46)).alloc (.cells #[.int .i64 7, .slice (some ⟨w1.heap.size, 0, none⟩) 1 1] 24)) := ⟨_, rfl⟩
  rw [← hw2]
  have n0 : w2.heap[w1.heap.size]? = some (.cells #[.int .i64 3, .int .i64 3, .int .u32 (c : Int)] 46 (0, 0)) := by rw [hw2]; exact heap_alloc2_old w1 _ _
  have n1 : w2.heap[w1.heap.size + 1]? = some (.cells #[.int .i64 7, .slice (some ⟨w1.heap.size, 0, none⟩) 1 1] 24 (0, 0)) := by rw [hw2]; exact heap_alloc2_new w1 _ _
  have hb2 : Below w.heap.size w w2 := by rw [hw2]; exact b1.trans ((((Below.refl _ w1).alloc (Nat.le_refl _) _).alloc (by simp) _).mono b1.size)
  obtain ⟨g, hg⟩ : ∃ g, g = w1.heap.size := ⟨_, rfl⟩
  rw [← hg] at n0 n1 ⊢
  have hgl : g < w2.heap.size := (Array.getElem?_eq_some_iff.1 n0).1
  have hgl1 : g + 1 < w2.heap.size := (Array.getElem?_eq_some_iff.1 n1).1
  have hsg : SgsIn w2 (some ⟨g, 0, none⟩) (m1 c).segs := fun i hi => by
    simp only [m1, List.length_cons, List.length_nil] at hi
    obtain rfl : i = 0 := by omega
    refine ⟨g, 0, rfl, hgl, ?_⟩
    unfold SgAt
    simp only [m1, List.getElem_cons_zero]
    refine ⟨?_, ?_, ?_⟩ <;> rw [cell_of_row w2 g _ _ _ (0, 0) n0] <;> rfl
  have hby := HC.out.bytes (cap := 1) hsg (by simp [m1]) (fit1 hc)
  unfold mfV at hby
  rw [show (m1 c).ver = 7 from rfl, show (m1 c).segs.length = 1 from rfl, show (mbs (m1 c)).2 = 0 by rw [mbs_yes (right1 c)]] at hby
  obtain ⟨X, hX⟩ : ∃ X, X = (mbs (m1 c)).1 := ⟨_, rfl⟩
  have hrd := read1 hc
  have hxl := len1 hc
  rw [← hX] at hby hrd hxl
  have HBY := Lib.hid hby; have HRD := Lib.hid hrd; have HN0 := Lib.hid n0; have HN1 := Lib.hid n1; have HB2 := Lib.hid hb2; have HXL := Lib.hid hxl
  clear hw2 hg n0 n1 hb2 hsg hby hX hrd hxl b1
  refine HBY.out.mono ?_
  rintro e w3 ⟨rfl, b3⟩
  have hre := HC.out.read (b := X) (w := w3) (by have := HXL.out; omega)
  have HRE := Lib.hid hre
  have HO3 : Hid (Old w2 w3) := Lib.hid b3
  clear hre b3
  go_wp2_with fail
  refine HRE.out.mono ?_
  rintro e w4 ⟨a2, cap2, rfl, hs4, b4⟩
  rw [HRD.out] at hs4
  obtain ⟨b, off, rfl, hbl, q0, q1, q2⟩ := hs4 0 (by simp [m1])
  simp only [m1, List.getElem_cons_zero, Nat.zero_mul, Nat.add_zero] at q0 q1 q2
  rw [HRD.out]
  unfold mfV
  rw [show (m1 c).ver = 7 from rfl, show (m1 c).segs.length = 1 from rfl]
  have HO4 : Hid (Old w2 w4) := Lib.hid (HO3.out.below b4)
  have hO4b := HB2.out.trans (HO4.out.mono HB2.out.size)
  have HV := Lib.hid (HC.out.ver (s := [109, 48, 48, 48, 48, 48, 55]) (w := w4.alloc (.cells #[.int .i64 7, .slice (some ⟨b, off, none⟩) 1 cap2] 24)) (HVT.out.later (hO4b.alloc hO4b.size _)) (by simp))
  clear hO4b
  rw [show bs [109, 48, 48, 48, 48, 48, 55] = (⟨#[109, 48, 48, 48, 48, 48, 55]⟩ : ByteArray) from rfl, show vr [109, 48, 48, 48, 48, 48, 55] = (7, true) from vr_nm (v := 7) (by omega)] at HV
  have hn4 := heap_alloc_new w4 (.cells #[.int .i64 7, .slice (some ⟨b, off, none⟩) 1 cap2] 24)
  have hb4a : Below w4.heap.size w4 (w4.alloc (.cells #[.int .i64 7, .slice (some ⟨b, off, none⟩) 1 cap2] 24)) := (Below.refl _ _).alloc (Nat.le_refl _) _
  clear hs4 b4
  go_wp2_with fail
  refine HV.out.mono ?_
  rintro e w5 ⟨rfl, b5⟩
  go_wp2_with fail
  have hz4 := hb4a.size
  have O5 : Old w2 w5 := HO4.out.below (hb4a.trans (b5.mono hz4))
  have hl4 : w4.heap.size < (w4.alloc (.cells #[.int .i64 7, .slice (some ⟨b, off, none⟩) 1 cap2] 24)).heap.size := by simp
  have hn5 : w5.heap[w4.heap.size]? = some (.cells #[.int .i64 7, .slice (some ⟨b, off, none⟩) 1 cap2] 24 (0, 0)) := (b5.block _ hl4).trans hn4
  have hnl := (Array.getElem?_eq_some_iff.1 hn5).1
  obtain ⟨nb, hnb⟩ : ∃ nb, nb = w4.heap.size := ⟨_, rfl⟩
  have hbl5 : b < w5.heap.size := by omega
  have p0 : w5.cell? ⟨b, off, none⟩ = some (.int .i64 3) := ((b5.cell (p := ⟨b, off, none⟩) (by show b < (w4.alloc _).heap.size; simp; omega)).trans (hb4a.cell (p := ⟨b, off, none⟩) hbl)).trans q0
  have p1 : w5.cell? ⟨b, off + 1, none⟩ = some (.int .i64 3) := ((b5.cell (p := ⟨b, off + 1, none⟩) (by show b < (w4.alloc _).heap.size; simp; omega)).trans (hb4a.cell (p := ⟨b, off + 1, none⟩) hbl)).trans q1
  have p2 : w5.cell? ⟨b, off + 2, none⟩ = some (.int .u32 (c : Int)) := ((b5.cell (p := ⟨b, off + 2, none⟩) (by show b < (w4.alloc _).heap.size; simp; omega)).trans (hb4a.cell (p := ⟨b, off + 2, none⟩) hbl)).trans q2
  rw [← hnb] at hn5 hnl ⊢
  have hg5 : w5.heap[g]? = _ := (O5.block g hgl).trans HN0.out
  have hg6 : w5.heap[g + 1]? = _ := (O5.block (g + 1) hgl1).trans HN1.out
  have hgl5 : g < w5.heap.size := Nat.lt_of_lt_of_le hgl O5.size
  have hgl6 : g + 1 < w5.heap.size := Nat.lt_of_lt_of_le hgl1 O5.size
  have m0 : ∀ W, Old w5 W → W.cell? ⟨nb, 0, none⟩ = some (.int .i64 7) := fun W hW => by rw [Below.cell (p := ⟨nb, 0, none⟩) hW hnl, cell_of_row w5 nb 0 _ _ (0, 0) hn5]; rfl
  have m1 : ∀ W, Old w5 W → W.cell? ⟨nb, 1, none⟩ = some (.slice (some ⟨b, off, none⟩) 1 cap2) := fun W hW => by rw [Below.cell (p := ⟨nb, 1, none⟩) hW hnl, cell_of_row w5 nb 1 _ _ (0, 0) hn5]; rfl
  have m2 : ∀ W, Old w5 W → W.cell? ⟨g + 1, 1, none⟩ = some (.slice (some ⟨g, 0, none⟩) 1 1) := fun W hW => by rw [Below.cell (p := ⟨g + 1, 1, none⟩) hW hgl6, cell_of_row w5 (g + 1) 1 _ _ (0, 0) hg6]; rfl
  have m3 : ∀ W, Old w5 W → W.cell? ⟨g, 0, none⟩ = some (.int .i64 3) := fun W hW => by rw [Below.cell (p := ⟨g, 0, none⟩) hW hgl5, cell_of_row w5 g 0 _ _ (0, 0) hg5]; rfl
  have m4 : ∀ W, Old w5 W → W.cell? ⟨g, 1, none⟩ = some (.int .i64 3) := fun W hW => by rw [Below.cell (p := ⟨g, 1, none⟩) hW hgl5, cell_of_row w5 g 1 _ _ (0, 0) hg5]; rfl
  have m5 : ∀ W, Old w5 W → W.cell? ⟨g, 2, none⟩ = some (.int .u32 (c : Int)) := fun W hW => by rw [Below.cell (p := ⟨g, 2, none⟩) hW hgl5, cell_of_row w5 g 2 _ _ (0, 0) hg5]; rfl
  have m6 : ∀ W, Old w5 W → W.cell? ⟨b, off, none⟩ = some (.int .i64 3) := fun W hW => by rw [Below.cell (p := ⟨b, off, none⟩) hW hbl5]; exact p0
  have m7 : ∀ W, Old w5 W → W.cell? ⟨b, off + 1, none⟩ = some (.int .i64 3) := fun W hW => by rw [Below.cell (p := ⟨b, off + 1, none⟩) hW hbl5]; exact p1
  have m8 : ∀ W, Old w5 W → W.cell? ⟨b, off + 2, none⟩ = some (.int .u32 (c : Int)) := fun W hW => by rw [Below.cell (p := ⟨b, off + 2, none⟩) hW hbl5]; exact p2
  have hbO5 := HB2.out.trans (O5.mono HB2.out.size)
  have HOB := Lib.hid (fun W (hW : Old w5 W) => HC.out.object (v := 3) (w := W) (HVT.out.later (hbO5.trans (hW.mono hbO5.size))) (by unfold i64; omega))
  clear hbO5
  rw [show bs (ob 3) = (⟨#[111, 48, 48, 48, 48, 48, 51]⟩ : ByteArray) by rw [ob_yes (by omega)]; rfl] at HOB
  obtain ⟨Y, hY⟩ : ∃ Y, Y = (⟨#[111, 48, 48, 48, 48, 48, 51]⟩ : ByteArray) := ⟨_, rfl⟩
  rw [← hY] at HOB ⊢
  have hyy : (Y.toList == Y.toList) = true := by simp
  have hcc : ((c : Int) == (c : Int)) = true := by simp
  have HB5 : Hid (Below w.heap.size w w5) := Lib.hid (HB2.out.trans (O5.mono HB2.out.size))
  have K0 := Old.refl w5
  clear hn5 hn4 hnb hg5 hg6 p0 p1 p2 q0 q1 q2 b5 O5 hb4a hz4 hl4 hY
  go_region_held3 (fun W => Old w5 W) (first | assumption | exact K0 | exact K0.drew | exact Old.drew ‹_›)
    ((go_at_call 22
      (with_reducible refine (HOB.out _ (by first | assumption | exact K0 | exact K0.drew | exact Old.drew ‹_›)).mono ?_)
      rintro e8 w8 ⟨rfl, hb8⟩
      have hO8 : Old w5 w8 := Old.below (by first | assumption | exact K0 | exact K0.drew | exact Old.drew ‹_›) hb8))
  all_goals
    have HF := Lib.hid (HB5.out.trans (hO8.mono HB5.out.size))
    clear hO8 K0 m0 m1 m2 m3 m4 m5 m6 m7 m8
    go_wp2_with fail
    go_ret
    exact ⟨rfl, HF.out⟩
end Go.Proofs.YtbefhnpmilcffaaDoor.J
