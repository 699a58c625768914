/- The first, small test of every law of layer 13. -/
import Derived.Test.YtkdidinekoaobaaGreatDoorPa
import Derived.Test.YtkdidinekoaobaaGreatDoorPawmath
import Derived.Deep.RegionHeld3
import Derived.Deep.QuietTactic
import Derived.BigQuiet
namespace Go.Proofs.YtkdidinekoaobaaGreatDoor.P
open Go.RowKit M J
set_option linter.unusedVariables false
set_option linter.unusedSimpArgs false

section
variable {B pb : Nat} {F F' : Nat → Prop} {S S' : Rs} {w w' : World} {k : Nat}
theorem goes_not (g : Goes B pb F S' w w' F') (hk : k < w.heap.size) (hn : ¬ F k) : ¬ F' k := fun hf => by
  rcases g.2.1 k hf with h | h
  · exact hn h
  · omega
theorem goes_block (g : Goes B pb F S' w w' F') (hk : k < w.heap.size) (hn : ¬ F k) : w'.heap[k]? = w.heap[k]? := g.2.2.block k hk hn
theorem goes_size (g : Goes B pb F S' w w' F') : w.heap.size ≤ w'.heap.size := g.2.2.size
theorem goes_below (h : RkS B w pb F S) (g : Goes B pb F S' w w' F') : Below B w w' := g.2.2.below (fun k hk => (h.lt hk).1) h.size
theorem goes_new (g : Goes B pb F S' w w' F') : ¬ F' w'.heap.size := fun hf => by have := (g.1.lt hf).2; omega
end
theorem sgs_turn {w w' : World} {a : Option Addr} {l : List Sg} (h : SgsIn w a l) (hz : w.heap.size ≤ w'.heap.size) (hk : ∀ x, a = some x → x.block < w.heap.size → w'.heap[x.block]? = w.heap[x.block]?) : SgsIn w' a l := fun i hi => by
  obtain ⟨b, off, rfl, h2, h3⟩ := h i hi
  have hb := hk _ rfl h2
  have hc : ∀ j, w'.cell? ⟨b, j, none⟩ = w.cell? ⟨b, j, none⟩ := fun j => by simp only at hb; simp only [World.cell?, hb]
  exact ⟨b, off, rfl, Nat.lt_of_lt_of_le h2 hz, by unfold SgAt; rw [hc, hc, hc]; exact h3⟩
theorem sgs_one {w : World} {b : Nat} {s : Sg} {T : TypeId} (h : w.heap[b]? = some (.cells #[.int .i64 s.n, .int .i64 s.size, .int .u32 (s.sum : Nat)] T (0, 0))) : SgsIn w (some ⟨b, 0, none⟩) [s] := fun i hi => by
  simp only [List.length_singleton] at hi
  obtain rfl : i = 0 := by omega
  refine ⟨b, 0, rfl, (Array.getElem?_eq_some_iff.1 h).1, ?_⟩
  unfold SgAt
  simp only [List.getElem_cons_zero]
  refine ⟨?_, ?_, ?_⟩ <;> rw [cell_of_row w b _ _ _ (0, 0) h] <;> rfl
theorem fit_one {c : Nat} (hc : c < 4294967296) : (⟨3, 3, c⟩ : Sg).fit := ⟨by unfold i64; simp, by unfold i64; simp, hc⟩
theorem fit_no : noMf.fit := ⟨by unfold i64 noMf; simp, fun s hs => by simp [noMf] at hs⟩
theorem room_aw {l : List Ob} {k : Int} (hk : k ≤ 100) (hl : l.length ≤ 10) (h : ∀ o ∈ l, o.nm.length ≤ 100 ∧ o.bt.length ≤ 1500) : Room ⟨l, [], k⟩ := ⟨by show k < _; omega, h, by show l.length ≤ 1000; omega⟩
theorem o3_small : o3.nm.length ≤ 100 ∧ o3.bt.length ≤ 1500 := ⟨by show (ob 3).length ≤ 100; rw [ob3]; simp, by simp⟩
theorem oM_small {c : Nat} (hc : c < 4294967296) : (oM c).nm.length ≤ 100 ∧ (oM c).bt.length ≤ 1500 := ⟨by show (nm 1).length ≤ 100; rw [nm1]; simp, by
  show (mbs (mA ⟨3, 3, c⟩)).1.length ≤ 1500
  rw [mbs_yes mA_right]
  have := pre_len (m := mA ⟨3, 3, c⟩) mA_right (fun s hs => by
    simp only [mA, List.mem_singleton] at hs
    rw [hs]; exact hc) (mA ⟨3, 3, c⟩).segs.length (Nat.le_refl _)
  rw [pre_all] at this
  simp only [seal4, List.length_append, four_length]
  have e1 : (mA ⟨3, 3, c⟩).segs.length = 1 := rfl
  omega⟩

set_option maxRecDepth 100000 in
set_option maxHeartbeats 4000000 in
theorem awake_any (C : PubC) (w : World) (hV : Vt w) : Calls Tryz.prog 7 #[] w fun e w' => e = .returned (.bool true) ∧ Below w.heap.size w w' := by
  have HC := Lib.hid C
  have HVT := Lib.hid hV
  have hcs := sum_lt abc
  obtain ⟨c, hc⟩ : ∃ c, c = sum abc := ⟨_, rfl⟩
  rw [← hc] at hcs
  have hsg : sgOf 3 abc = ⟨3, 3, c⟩ := by unfold sgOf; rw [← hc]; rfl
  have hup := upload_aw
  rw [hsg] at hup
  have HUP := Lib.hid hup; have HSG := Lib.hid hsg
  have hfe := fetch_aw (k := 6) (look_aw c)
  rw [hsg] at hfe
  have HFE := Lib.hid hfe
  clear C hV hup hsg hfe hc
  go_enter Tryz.func7, Tryz.ntmps7
  go_wp2_with fail
  refine (new_any w).mono ?_
  rintro e w1 ⟨pb, F0, rfl, r0, hF0, b1⟩
  have R0 := Lib.hid r0; have B1 := Lib.hid b1
  clear r0 b1 hF0
  go_wp2_with fail
  have hu := HC.out.upload (n := 3) (b := abc) R0.out (vb_of HVT.out (Nat.le_refl _) B1.out) (room_aw (l := []) (k := 0) (by omega) (by simp) (fun o ho => by simp at ho)) (by unfold i64; omega) (by simp)
  rw [HUP.out] at hu
  unfold sgV at hu
  rw [show bs abc = (⟨#[97, 98, 99]⟩ : ByteArray) from rfl] at hu
  refine hu.mono ?_
  rintro e w2 ⟨F1, rfl, g1⟩
  have B2 := Lib.hid (B1.out.trans (goes_below R0.out g1))
  have G1 := Lib.hid g1
  clear hu g1
  go_wp2_with fail
  have a3 : Below w2.heap.size w2 (w2.alloc (.cells #[.int .i64 3, .int .i64 3, .int .u32 (c : Int)] 51)) := (Below.refl _ _).alloc (Nat.le_refl _) _
  have n3 := heap_alloc_new w2 (.cells #[.int .i64 3, .int .i64 3, .int .u32 (c : Int)] 51)
  have f3 := goes_new G1.out
  have R3 := Lib.hid (G1.out.1.below a3)
  have B3 := Lib.hid (B2.out.trans (a3.mono B2.out.size))
  obtain ⟨w3, hw3⟩ : ∃ w3, w3 = w2.alloc (.cells #[.int .i64 3, .int .i64 3, .int .u32 (c : Int)] 51) := ⟨_, rfl⟩
  rw [← hw3] at n3 R3 B3 ⊢
  obtain ⟨b1, hb1⟩ : ∃ b1, b1 = w2.heap.size := ⟨_, rfl⟩
  rw [← hb1] at n3 f3 ⊢
  have l3 : b1 < w3.heap.size := (Array.getElem?_eq_some_iff.1 n3).1
  have N3 := Lib.hid n3; have F3 := Lib.hid f3
  clear hw3 hb1 a3 n3 f3 B2 G1
  have hl := HC.out.latest R3.out (vb_of HVT.out (Nat.le_refl _) B3.out) (room_aw (k := 2) (by omega) (by simp) (fun o ho => by rw [List.mem_singleton.1 ho]; exact o3_small))
  rw [latest_aw1] at hl
  refine hl.mono ?_
  rintro e w4 ⟨F2, a4, c4, rfl, _, _, g4⟩
  have n4 := (goes_block g4 l3 F3.out).trans N3.out
  have f4 := goes_not g4 l3 F3.out
  have B4 := Lib.hid (B3.out.trans (goes_below R3.out g4))
  have R4 := Lib.hid g4.1
  clear hl g4 B3 R3 N3 F3
  unfold mfV
  rw [show noMf.ver = 0 from rfl, show noMf.segs.length = 0 from rfl]
  have l4 : b1 < w4.heap.size := (Array.getElem?_eq_some_iff.1 n4).1
  have N4 := Lib.hid n4; have F4 := Lib.hid f4
  have a5 : Below w4.heap.size w4 (w4.alloc (.cells #[.int .i64 0, .slice a4 0 c4] 33)) := (Below.refl _ _).alloc (Nat.le_refl _) _
  have m5 := fun t => (a5.cell (p := ⟨b1, t, none⟩) l4).trans (cell_of_row w4 b1 t _ _ (0, 0) n4)
  have d0 := m5 0; have d1 := m5 1; have d2 := m5 2
  simp only [List.getElem?_toArray, List.getElem?_cons_succ, List.getElem?_cons_zero] at d0 d1 d2
  clear m5 n4 f4
  go_wp2_with fail
  have a6 : Below w4.heap.size w4 ((w4.alloc (.cells #[.int .i64 0, .slice a4 0 c4] 33)).alloc (.cells #[.int .i64 3, .int .i64 3, .int .u32 (c : Int)] 51)) := a5.alloc a5.size _
  have n6 := heap_alloc_new (w4.alloc (.cells #[.int .i64 0, .slice a4 0 c4] 33)) (.cells #[.int .i64 3, .int .i64 3, .int .u32 (c : Int)] 51)
  simp only [World.size_alloc] at n6
  obtain ⟨w6, hw6⟩ : ∃ w6, w6 = ((w4.alloc (.cells #[.int .i64 0, .slice a4 0 c4] 33)).alloc (.cells #[.int .i64 3, .int .i64 3, .int .u32 (c : Int)] 51)) := ⟨_, rfl⟩
  rw [← hw6] at a6 n6 ⊢
  have R6 := Lib.hid (R4.out.below a6)
  have B6 := Lib.hid (B4.out.trans (a6.mono B4.out.size))
  have l6 : b1 < w6.heap.size := Nat.lt_of_lt_of_le l4 a6.size
  have p6 : w6.heap[b1]? = _ := (a6.block b1 l4).trans N4.out
  have z6 : w4.heap.size + 1 < w6.heap.size := (Array.getElem?_eq_some_iff.1 n6).1
  have q6 : ¬ F2 (w4.heap.size + 1) := fun hf => by have := (R4.out.lt hf).2; omega
  have hn := HC.out.next (m := noMf) (ma := none) (mc := 0) (l := [⟨3, 3, c⟩]) (a := some ⟨w4.heap.size + 1, 0, none⟩) (c := 1) R6.out (vb_of HVT.out (Nat.le_refl _) B6.out) (room_aw (k := 3) (by omega) (by simp) (fun o ho => by rw [List.mem_singleton.1 ho]; exact o3_small))
    (SgsIn.nil _ _) (sgs_one (s := ⟨3, 3, c⟩) n6) (fun x hx => by cases hx; exact ⟨z6, q6⟩) fit_no (fun s hs => by rw [List.mem_singleton.1 hs]; exact fit_one hcs) (by simp [noMf]) (by simp)
  rw [show noMf.ver = 0 from rfl, show noMf.segs.length = 0 from rfl, next_aw c] at hn
  unfold mfV at hn
  rw [show ([⟨3, 3, c⟩] : List Sg).length = 1 from rfl] at hn
  refine hn.mono ?_
  rintro e w7 ⟨F3, a7, c7, rfl, hs7, hno7, g7⟩
  have n7 := (goes_block g7 l6 F4.out).trans p6
  have f7 := goes_not g7 l6 F4.out
  have l7 : b1 < w7.heap.size := (Array.getElem?_eq_some_iff.1 n7).1
  have k7 : ∀ x, a7 = some x → ¬ F3 x.block := fun x hx => by
    rcases hno7 x hx with ⟨_, h⟩ | ⟨y, hy, hyx⟩
    · exact h
    · cases hy
      rw [← hyx]
      exact goes_not g7 z6 q6
  have B7 := Lib.hid (B6.out.trans (goes_below R6.out g7))
  have R7 := Lib.hid g7.1
  have N7 := Lib.hid n7; have F7 := Lib.hid f7; have HS7 := Lib.hid hs7; have K7 := Lib.hid k7
  clear hn g7 B6 R6 N4 F4 hw6 n6 p6 z6 q6 a6 a5 d0 d1 d2 R4 B4 l4 l6 n7 f7 hs7 k7 hno7
  rw [show (mA ⟨3, 3, c⟩).ver = 1 from rfl, show (mA ⟨3, 3, c⟩).segs.length = 1 from rfl]
  have a8 : Below w7.heap.size w7 (w7.alloc (.cells #[.int .i64 1, .slice a7 1 c7] 33)) := (Below.refl _ _).alloc (Nat.le_refl _) _
  have n8 := heap_alloc_new w7 (.cells #[.int .i64 1, .slice a7 1 c7] 33)
  go_wp2_with fail
  obtain ⟨w8, hw8⟩ : ∃ w8, w8 = w7.alloc (.cells #[.int .i64 1, .slice a7 1 c7] 33) := ⟨_, rfl⟩
  rw [← hw8] at a8 n8 ⊢
  obtain ⟨b3, hb3⟩ : ∃ b3, b3 = w7.heap.size := ⟨_, rfl⟩
  have f8 : ¬ F3 b3 := fun hf => by have := (R7.out.lt hf).2; omega
  rw [← hb3] at n8 ⊢
  have l8 : b1 < w8.heap.size := Nat.lt_of_lt_of_le l7 a8.size
  have y8 : b3 < w8.heap.size := (Array.getElem?_eq_some_iff.1 n8).1
  have p8 : w8.heap[b1]? = _ := (a8.block b1 l7).trans N7.out
  have R8 := Lib.hid (R7.out.below a8)
  have B8 := Lib.hid (B7.out.trans (a8.mono B7.out.size))
  have HS8 := Lib.hid (HS7.out.later a8 (Nat.le_refl _))
  have hm2 := HC.out.latest R8.out (vb_of HVT.out (Nat.le_refl _) B8.out) (room_aw (k := 4) (by omega) (by simp) (fun o ho => by
    simp only [List.mem_cons, List.not_mem_nil, or_false] at ho
    rcases ho with rfl | rfl
    · exact oM_small hcs
    · exact o3_small))
  rw [latest_aw2 hcs] at hm2
  refine hm2.mono ?_
  rintro e w9 ⟨F4, a9, c9, rfl, hs9, hno9, g9⟩
  have n9 := (goes_block g9 l8 F7.out).trans p8
  have f9 := goes_not g9 l8 F7.out
  have u9 := (goes_block g9 y8 f8).trans n8
  have v9 := goes_not g9 y8 f8
  have hs79 := sgs_turn HS8.out (goes_size g9) (fun x hx hl => goes_block g9 hl (K7.out x hx))
  have k79 : ∀ x, a7 = some x → ¬ F4 x.block := fun x hx => by
    obtain ⟨b, off, e1, h2, _⟩ := HS8.out 0 (by simp [mA])
    rw [hx] at e1
    cases e1
    exact goes_not g9 h2 (K7.out _ hx)
  have B9 := Lib.hid (B8.out.trans (goes_below R8.out g9))
  have R9 := Lib.hid g9.1
  have N9 := Lib.hid n9; have F9 := Lib.hid f9; have U9 := Lib.hid u9; have V9 := Lib.hid v9; have HS9 := Lib.hid hs9; have HS79 := Lib.hid hs79; have K79 := Lib.hid k79
  have HNO9 := Lib.hid hno9
  have l9 : b1 < w9.heap.size := (Array.getElem?_eq_some_iff.1 n9).1
  have y9 : b3 < w9.heap.size := (Array.getElem?_eq_some_iff.1 u9).1
  clear hm2 g9 R8 B8 HS8 HS7 K7 N7 F7 R7 B7 hw8 hb3 f8 n8 a8 p8 n9 f9 u9 v9 hs79 k79 hs9 hno9
  rw [show (mA ⟨3, 3, c⟩).ver = 1 from rfl, show (mA ⟨3, 3, c⟩).segs.length = 1 from rfl]
  unfold mfV
  have a10 : Below w9.heap.size w9 (w9.alloc (.cells #[.int .i64 1, .slice a9 1 c9] 33)) := (Below.refl _ _).alloc (Nat.le_refl _) _
  have n10 := heap_alloc_new w9 (.cells #[.int .i64 1, .slice a9 1 c9] 33)
  have m10 := fun t => (a10.cell (p := ⟨b1, t, none⟩) l9).trans (cell_of_row w9 b1 t _ _ (0, 0) N9.out)
  have d0 := m10 0; have d1 := m10 1; have d2 := m10 2
  simp only [List.getElem?_toArray, List.getElem?_cons_succ, List.getElem?_cons_zero] at d0 d1 d2
  clear m10
  go_wp2_with fail
  obtain ⟨w10, hw10⟩ : ∃ w10, w10 = w9.alloc (.cells #[.int .i64 1, .slice a9 1 c9] 33) := ⟨_, rfl⟩
  rw [← hw10] at a10 n10 ⊢
  obtain ⟨b4, hb4⟩ : ∃ b4, b4 = w9.heap.size := ⟨_, rfl⟩
  have f10 : ¬ F4 b4 := fun hf => by have := (R9.out.lt hf).2; omega
  rw [← hb4] at n10 ⊢
  have l10 : b1 < w10.heap.size := Nat.lt_of_lt_of_le l9 a10.size
  have y10 : b3 < w10.heap.size := Nat.lt_of_lt_of_le y9 a10.size
  have x10 : b4 < w10.heap.size := (Array.getElem?_eq_some_iff.1 n10).1
  have R10 := Lib.hid (R9.out.below a10)
  have B10 := Lib.hid (B9.out.trans (a10.mono B9.out.size))
  have hf := HC.out.fetch (s := ⟨3, 3, c⟩) R10.out (vb_of HVT.out (Nat.le_refl _) B10.out) (room_aw (k := 6) (by omega) (by simp) (fun o ho => by
    simp only [List.mem_cons, List.not_mem_nil, or_false] at ho
    rcases ho with rfl | rfl
    · exact oM_small hcs
    · exact o3_small)) (fit_one hcs)
  rw [HFE.out] at hf
  unfold sgV at hf
  refine hf.mono ?_
  rintro e w11 ⟨F5, rfl, g11⟩
  have n11 := (goes_block g11 l10 (fun hf => F9.out (by exact hf))).trans ((a10.block b1 l9).trans N9.out)
  have v11 := (goes_block g11 y10 V9.out).trans ((a10.block b3 y9).trans U9.out)
  have x11 := (goes_block g11 x10 f10).trans n10
  have hs9b := HS9.out.later a10 (Nat.le_refl _)
  have hs11 := sgs_turn hs9b (goes_size g11) (fun x hx hl => goes_block g11 hl (HNO9.out x hx).2)
  have hs7b := HS79.out.later a10 (Nat.le_refl _)
  have ht11 := sgs_turn hs7b (goes_size g11) (fun x hx hl => goes_block g11 hl (K79.out x hx))
  have B11 := Lib.hid (B10.out.trans (goes_below R10.out g11))
  have N11 := Lib.hid n11; have U11 := Lib.hid v11; have X11 := Lib.hid x11; have HS11 := Lib.hid hs11; have HT11 := Lib.hid ht11
  have y11 : b3 < w11.heap.size := (Array.getElem?_eq_some_iff.1 v11).1
  clear hf g11 n11 v11 x11 hs9b hs11 hs7b ht11 R10 B10 R9 B9 N9 F9 U9 V9 HS9 HS79 K79 HNO9 hw10 hb4 n10 f10 a10 d0 d1 d2 l9 y9 l10 y10 x10
  rw [show bs abc = (⟨#[97, 98, 99]⟩ : ByteArray) from rfl]
  have EN : ∀ t : Nat, (#[Value.string ⟨#[111, 48, 48, 48, 48, 48, 51]⟩, .string ⟨#[111, 48, 48, 48, 48, 48, 52]⟩, .string ⟨#[120]⟩, .string ⟨#[109, 48, 48, 48, 48, 48, 49]⟩] : Array Value)[t]? = (strs namesA)[t]? := fun t => by
    rw [← Array.getElem?_toList]
    rfl
  have a12 : Below w11.heap.size w11 (w11.alloc (.cells #[Value.string ⟨#[111, 48, 48, 48, 48, 48, 51]⟩, .string ⟨#[111, 48, 48, 48, 48, 48, 52]⟩, .string ⟨#[120]⟩, .string ⟨#[109, 48, 48, 48, 48, 48, 49]⟩] 9)) := (Below.refl _ _).alloc (Nat.le_refl _) _
  have n12 := heap_alloc_new w11 (.cells #[Value.string ⟨#[111, 48, 48, 48, 48, 48, 51]⟩, .string ⟨#[111, 48, 48, 48, 48, 48, 52]⟩, .string ⟨#[120]⟩, .string ⟨#[109, 48, 48, 48, 48, 48, 49]⟩] 9)
  have m12 := fun t => (a12.cell (p := ⟨b3, t, none⟩) y11).trans (cell_of_row w11 b3 t _ _ (0, 0) U11.out)
  have d0 := m12 0; have d1 := m12 1
  simp only [List.getElem?_toArray, List.getElem?_cons_succ, List.getElem?_cons_zero] at d0 d1
  clear m12
  go_wp2_with fail
  obtain ⟨w12, hw12⟩ : ∃ w12, w12 = w11.alloc (.cells #[Value.string ⟨#[111, 48, 48, 48, 48, 48, 51]⟩, .string ⟨#[111, 48, 48, 48, 48, 48, 52]⟩, .string ⟨#[120]⟩, .string ⟨#[109, 48, 48, 48, 48, 48, 49]⟩] 9) := ⟨_, rfl⟩
  rw [← hw12] at a12 n12 ⊢
  have hvals : Vals w12 (some ⟨w11.heap.size, 0, none⟩) (strs namesA) := fun j hj => ⟨w11.heap.size, 0, rfl, (Array.getElem?_eq_some_iff.1 n12).1, by
    rw [Nat.zero_add, cell_of_row w12 w11.heap.size j _ _ (0, 0) n12, EN j, List.getElem?_eq_getElem hj]⟩
  have B12 := Lib.hid (B11.out.trans (a12.mono B11.out.size))
  have hwa := HC.out.waste (m := mA ⟨3, 3, c⟩) (ma := a7) (mc := c7) (nc := 4) (HVT.out.later B12.out) hvals (HT11.out.later a12 (Nat.le_refl _)) ⟨by unfold i64 mA; simp, fun s hs => by
    simp only [mA, List.mem_singleton] at hs
    rw [hs]; exact fit_one hcs⟩ (by simp) (fun n hn => by
    simp only [List.mem_cons, List.not_mem_nil, or_false] at hn
    rcases hn with rfl | rfl | rfl | rfl <;> simp) (by simp [mA])
  rw [ws_aw c] at hwa
  unfold mfV at hwa
  rw [show (mA ⟨3, 3, c⟩).ver = 1 from rfl, show (mA ⟨3, 3, c⟩).segs.length = 1 from rfl] at hwa
  refine hwa.mono ?_
  rintro e w13 ⟨oa, oc, rfl, hv13, b13⟩
  have b14 := a12.trans (b13.mono a12.size)
  have B14 := Lib.hid (B11.out.trans (b14.mono B11.out.size))
  obtain ⟨vb, voff, rfl, hvl, hvc⟩ := hv13 0 (by simp [strs])
  obtain ⟨sb, soff, rfl, hsl, s0, s1, s2⟩ := HS11.out 0 (by simp [mA])
  have hl11 := fun {b : Nat} (h : b < w11.heap.size) => h
  have c1 : b1 < w11.heap.size := (Array.getElem?_eq_some_iff.1 N11.out).1
  have c4 : b4 < w11.heap.size := (Array.getElem?_eq_some_iff.1 X11.out).1
  simp only [strs, List.map_cons, List.map_nil, List.getElem_cons_zero, Nat.add_zero] at hvc
  simp only [mA, List.getElem_cons_zero, Nat.zero_mul, Nat.add_zero] at s0 s1 s2
  have k0 := fun t => (b14.cell (p := ⟨b1, t, none⟩) c1).trans (cell_of_row w11 b1 t _ _ (0, 0) N11.out)
  have k1 := fun t => (b14.cell (p := ⟨b4, t, none⟩) c4).trans (cell_of_row w11 b4 t _ _ (0, 0) X11.out)
  have r0 := k0 0; have r1 := k0 1; have r2 := k0 2; have r3 := k1 0; have r4 := k1 1
  simp only [List.getElem?_toArray, List.getElem?_cons_succ, List.getElem?_cons_zero] at r0 r1 r2 r3 r4
  have s0' := (b14.cell (p := ⟨sb, soff, none⟩) hsl).trans s0
  have s1' := (b14.cell (p := ⟨sb, soff + 1, none⟩) hsl).trans s1
  have s2' := (b14.cell (p := ⟨sb, soff + 2, none⟩) hsl).trans s2
  rw [show bs [111, 48, 48, 48, 48, 48, 52] = (⟨#[111, 48, 48, 48, 48, 48, 52]⟩ : ByteArray) from rfl] at hvc
  have hcc : ((c : Int) == (c : Int)) = true := by simp
  clear hwa hw12 a12 n12 d0 d1 hvals B12 B11 N11 U11 X11 HS11 HT11 k0 k1 s0 s1 s2 b13 b14 EN y11 hl11 c1 c4
  rw [show ([[111, 48, 48, 48, 48, 48, 52]] : List (List UInt8)).length = 1 from rfl]
  go_wp2_with fail
  go_quiet (fail)
  have hbq := B14.out.trans ((below_drewN (Below.refl w13.heap.size w13) nq).mono B14.out.size)
  generalize w13.drewN nq = w15 at *
  go_wp2_with fail
  go_ret
  exact ⟨rfl, hbq⟩
end Go.Proofs.YtkdidinekoaobaaGreatDoor.P
