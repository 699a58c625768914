/- The first, small test of every law of layer 10 returns true, if the program's directory does as is asked of it; is a script short? -/
import Derived.Test.YtbjginlhgedjdaaDoorKtotal
import Derived.Test.YtbjginlhgedjdaaDoorKops
namespace Go.Proofs.YtbjginlhgedjdaaDoor.K
open Go.RowKit
set_option linter.unusedVariables false

theorem Ml.kept {B B' : Nat} {w w' : World} (h : Ml B w) (hk : w'.heap[0]? = w.heap[0]?) (hB : B ≤ B') : Ml B' w' := ⟨Nat.lt_of_lt_of_le h.1 hB, by rw [hk]; exact h.2⟩
theorem Ml.lt {B : Nat} {w : World} (h : Ml B w) : 0 < w.heap.size := by
  obtain ⟨_, t, fz, h⟩ := h
  exact (Array.getElem?_eq_some_iff.1 h).1
theorem Ml.below {B : Nat} {w w' : World} (h : Ml B w) (hb : Below B w w') : Ml B w' := Ml.kept h (hb.block _ h.1) (Nat.le_refl _)
theorem Ml.new {B : Nat} {w w' : World} (h : Ml B w) (hb : Below w.heap.size w w') : Ml B w' := Ml.kept h (hb.block _ (Ml.lt h)) (Nat.le_refl _)
theorem Ml.turn {B : Nat} {w w' : World} {F : Nat → Prop} (h : Ml B w) (t : Turn F w w') (hF : ∀ k, F k → B ≤ k) : Ml B w' := Ml.kept h (t.block _ (Ml.lt h) (fun hf => by have := hF _ hf; have := h.1; omega)) (Nat.le_refl _)

def l1 : Lc := ⟨1, 2, 3, 4⟩
noncomputable def S1 : Dr := putS (none' 8) [107] l1
theorem sre1 : sre S1 = [([107], l1)] := by
  have h := (fit_put fit_new (k := [107]) (by omega) (by simp) l1).2
  have he : sre (none' 8 : Dr) = [] := List.length_eq_zero_iff.1 (by rw [sre_len, cnt_none'])
  rw [he] at h
  exact h
theorem fit1 : Fit 1 S1 := (fit_put fit_new (k := [107]) (by omega) (by simp) l1).1
theorem cnt1 : cnt S1 = 1 := by rw [← sre_len, sre1]; rfl
theorem has1 : hasB S1 [107] = true := has_mem.2 ⟨l1, by rw [sre1]; simp⟩
theorem loc1 : locOf S1 [107] = l1 := loc_mem fit1.ok.inv.one (by rw [sre1]; simp)
theorem has0 : hasB S1 [106] = false := by
  cases h : hasB S1 [106]
  · rfl
  · obtain ⟨v, hv⟩ := has_mem.1 h
    rw [sre1] at hv
    simp at hv
theorem len1 : S1.length = 8 := by
  unfold S1
  rw [putS_no (fun i v => not_has_none), lay_len]
  unfold room
  rw [cnt_none', if_neg (by simp [none'])]
  simp [none']
theorem far1 : farN S1 [107] = 0 := by
  have h := (farN_lt fit1 [107]).2.1 has1
  rw [cnt1] at h
  omega
theorem from1 : fromE S1 [97] = [([107], l1)] := by
  unfold fromE
  rw [sre1]
  rfl

set_option maxRecDepth 100000 in
set_option maxHeartbeats 1000000 in
theorem awakeK_any {Pd : Nat → World → Nat → (Nat → Prop) → Dr → Prop} (C : DirC Pd) (w : World) (hM : Ml w.heap.size w) : Calls Tryd.prog 6 #[] w fun e w' => e = .returned (.bool true) ∧ Below w.heap.size w w' := by
  have HC := Lib.hid C; have HM := Lib.hid hM
  clear C hM
  go_enter Tryd.func6, Tryd.ntmps6
  go_wp2_with fail
  refine (HC.out.new w HM.out).mono ?_
  rintro e w1 ⟨pb, F, rfl, h1, b1⟩
  have M1 := Lib.hid (Ml.new HM.out b1)
  have H1 := Lib.hid h1; have B1 := Lib.hid b1
  clear h1 b1
  go_wp2_with fail
  have hb2 : Below w1.heap.size w1 (w1.alloc (.cells #[.int .i64 1, .int .i64 2, .int .i64 3, .int .u64 4] 31)) := (Below.refl _ _).alloc (Nat.le_refl _) _
  have h2 := HC.out.kept H1.out (Turn.of_below (fun _ => False) hb2 (Nat.le_refl _)) (fun _ _ _ f => f)
  have hp := HC.out.put h2 (Ml.new M1.out hb2) fit_new (by omega) (k := [107]) (by simp) l1
  rw [show putS (none' 8) [107] l1 = S1 from rfl] at hp
  have x2 := heap_alloc_new w1 (.cells #[.int .i64 1, .int .i64 2, .int .i64 3, .int .u64 4] 31)
  have hFl := HC.out.lt H1.out
  have nx : ¬ F w1.heap.size := fun hf => by have := (hFl _ hf).2; omega
  have M2 := Lib.hid (Ml.new M1.out hb2)
  have B2 := Lib.hid (B1.out.trans (hb2.mono B1.out.size))
  obtain ⟨lb, hlb⟩ : ∃ lb, lb = w1.heap.size := ⟨_, rfl⟩
  have hlw : w1.heap.size < (w1.alloc (.cells #[.int .i64 1, .int .i64 2, .int .i64 3, .int .u64 4] 31)).heap.size := by simp
  have HF := Lib.hid hFl
  generalize hW2 : w1.alloc _ = w2 at *
  rw [← hlb] at x2 nx hlw ⊢
  clear hW2 hb2 h2 hFl
  refine hp.mono ?_
  rintro e w3 ⟨rfl, F3, h3, hF3, t3⟩
  have x3 : w3.heap[lb]? = some (.cells #[.int .i64 1, .int .i64 2, .int .i64 3, .int .u64 4] 31 (0, 0)) := by rw [t3.block _ hlw nx]; exact x2
  have hcl := fun t => cell_of_row w3 lb t _ _ (0, 0) x3
  have e0 := hcl 0; have e1 := hcl 1; have e2 := hcl 2; have e3 := hcl 3
  simp only [List.getElem?_toArray, List.getElem?_cons_succ, List.getElem?_cons_zero] at e0 e1 e2 e3
  have M3 := Lib.hid (Ml.turn M2.out t3 (fun k hk => (HF.out k hk).1))
  have B3 := Lib.hid (B2.out.trans (t3.below (fun k hk => (HF.out k hk).1) B2.out.size))
  have H3 := Lib.hid h3
  have hx3l : lb < w3.heap.size := (Array.getElem?_eq_some_iff.1 x3).1
  clear hp x2 h3 t3 hF3 nx hlw hcl HF hlb
  go_wp2_with fail
  have hg := HC.out.get H3.out M3.out fit1 (k := [107]) (by simp)
  rw [loc1, has1] at hg
  refine hg.mono ?_
  rintro e w4 ⟨rfl, b4⟩
  simp only [locV, l1]
  have H4 := Lib.hid (HC.out.kept H3.out (Turn.of_below (fun _ => False) b4 (Nat.le_refl _)) (fun _ _ _ f => f))
  have M4 := Lib.hid (Ml.new M3.out b4)
  have B4 := Lib.hid (B3.out.trans (b4.mono B3.out.size))
  have x4 : w4.heap[lb]? = some (.cells #[.int .i64 1, .int .i64 2, .int .i64 3, .int .u64 4] 31 (0, 0)) := by rw [b4.block _ hx3l]; exact x3
  have hx4l := Nat.lt_of_lt_of_le hx3l b4.size
  clear hg b4 e0 e1 e2 e3 x3 hx3l
  go_wp2_with fail
  have hb5 : Below w4.heap.size w4 (w4.alloc (.cells #[.int .i64 1, .int .i64 2, .int .i64 3, .int .u64 4] 31)) := (Below.refl _ _).alloc (Nat.le_refl _) _
  have y5 := heap_alloc_new w4 (.cells #[.int .i64 1, .int .i64 2, .int .i64 3, .int .u64 4] 31)
  have x5 : (w4.alloc (.cells #[.int .i64 1, .int .i64 2, .int .i64 3, .int .u64 4] 31)).heap[lb]? = some (.cells #[.int .i64 1, .int .i64 2, .int .i64 3, .int .u64 4] 31 (0, 0)) := by rw [hb5.block _ hx4l]; exact x4
  have H5 := Lib.hid (HC.out.kept H4.out (Turn.of_below (fun _ => False) hb5 (Nat.le_refl _)) (fun _ _ _ f => f))
  have M5 := Lib.hid (Ml.new M4.out hb5)
  have B5 := Lib.hid (B4.out.trans (hb5.mono B4.out.size))
  have hxw5 : lb < (w4.alloc (.cells #[.int .i64 1, .int .i64 2, .int .i64 3, .int .u64 4] 31)).heap.size := Nat.lt_of_lt_of_le hx4l hb5.size
  have hyw5 : w4.heap.size < (w4.alloc (.cells #[.int .i64 1, .int .i64 2, .int .i64 3, .int .u64 4] 31)).heap.size := by simp
  obtain ⟨xb, hxb⟩ : ∃ xb, xb = w4.heap.size := ⟨_, rfl⟩
  generalize hW5 : w4.alloc _ = w5 at *
  rw [← hxb] at y5 hyw5 ⊢
  clear hW5 hb5 x4 hx4l hxb
  have hg2 := HC.out.get H5.out M5.out fit1 (k := [106]) (by simp)
  rw [has0] at hg2
  refine hg2.mono ?_
  rintro e w6 ⟨rfl, b6⟩
  have H6 := Lib.hid (HC.out.kept H5.out (Turn.of_below (fun _ => False) b6 (Nat.le_refl _)) (fun _ _ _ f => f))
  have M6 := Lib.hid (Ml.new M5.out b6)
  have B6 := Lib.hid (B5.out.trans (b6.mono B5.out.size))
  have x6 : w6.heap[lb]? = some (.cells #[.int .i64 1, .int .i64 2, .int .i64 3, .int .u64 4] 31 (0, 0)) := by rw [b6.block _ hxw5]; exact x5
  have y6 : w6.heap[xb]? = some (.cells #[.int .i64 1, .int .i64 2, .int .i64 3, .int .u64 4] 31 (0, 0)) := by rw [b6.block _ hyw5]; exact y5
  have hxw6 := Nat.lt_of_lt_of_le hxw5 b6.size
  have hyw6 := Nat.lt_of_lt_of_le hyw5 b6.size
  generalize locOf S1 [106] = lq
  clear hg2 b6 x5 y5 hxw5 hyw5
  simp only [locV]
  go_wp2_with fail
  have hb9 : Below w6.heap.size w6 (w6.alloc (.cells #[.int .i64 lq.seg, .int .i64 lq.off, .int .i64 lq.len, .int .u64 lq.seq] 31)) := (Below.refl _ _).alloc (Nat.le_refl _) _
  generalize hW9 : w6.alloc _ = w9 at *
  have H9 := Lib.hid (HC.out.kept H6.out (Turn.of_below (fun _ => False) hb9 (Nat.le_refl _)) (fun _ _ _ f => f))
  have M9 := Lib.hid (Ml.new M6.out hb9)
  have B9 := Lib.hid (B6.out.trans (hb9.mono B6.out.size))
  have x9 : w9.heap[lb]? = some (.cells #[.int .i64 1, .int .i64 2, .int .i64 3, .int .u64 4] 31 (0, 0)) := by rw [hb9.block _ hxw6]; exact x6
  have y9 : w9.heap[xb]? = some (.cells #[.int .i64 1, .int .i64 2, .int .i64 3, .int .u64 4] 31 (0, 0)) := by rw [hb9.block _ hyw6]; exact y6
  have hxw9 := Nat.lt_of_lt_of_le hxw6 hb9.size
  have hyw9 := Nat.lt_of_lt_of_le hyw6 hb9.size
  clear hW9 hb9 x6 y6 hxw6 hyw6 H6 M6 B6
  have hfr := HC.out.far H9.out M9.out fit1 (k := [107]) (by simp)
  rw [far1, has1] at hfr
  refine hfr.mono ?_
  rintro e w7 ⟨rfl, b7⟩
  have H7 := Lib.hid (HC.out.kept H9.out (Turn.of_below (fun _ => False) b7 (Nat.le_refl _)) (fun _ _ _ f => f))
  have M7 := Lib.hid (Ml.new M9.out b7)
  have B7 := Lib.hid (B9.out.trans (b7.mono B9.out.size))
  have x7 : w7.heap[lb]? = some (.cells #[.int .i64 1, .int .i64 2, .int .i64 3, .int .u64 4] 31 (0, 0)) := by rw [b7.block _ hxw9]; exact x9
  have y7 : w7.heap[xb]? = some (.cells #[.int .i64 1, .int .i64 2, .int .i64 3, .int .u64 4] 31 (0, 0)) := by rw [b7.block _ hyw9]; exact y9
  have hxw7 := Nat.lt_of_lt_of_le hxw9 b7.size
  have hyw7 := Nat.lt_of_lt_of_le hyw9 b7.size
  clear hfr b7 x9 y9 hxw9 hyw9
  go_wp2_with fail
  have hk := HC.out.keys H7.out M7.out fit1 (by omega) (k := [97]) (by simp)
  rw [from1] at hk
  refine hk.mono ?_
  rintro e w8 ⟨kv, lv, rfl, hs8, hl8, b8⟩
  obtain ⟨ua, uc, hu⟩ := ss_form hs8
  rw [show (([([107], l1)] : List (Ent Lc)).map Prod.fst).length = 1 from rfl] at hu
  subst hu
  have H8 := Lib.hid (HC.out.kept H7.out (Turn.of_below (fun _ => False) b8 (Nat.le_refl _)) (fun _ _ _ f => f))
  have B8 := Lib.hid (B7.out.trans (b8.mono B7.out.size))
  have x8 : w8.heap[lb]? = some (.cells #[.int .i64 1, .int .i64 2, .int .i64 3, .int .u64 4] 31 (0, 0)) := by rw [b8.block _ hxw7]; exact x7
  have y8 : w8.heap[xb]? = some (.cells #[.int .i64 1, .int .i64 2, .int .i64 3, .int .u64 4] 31 (0, 0)) := by rw [b8.block _ hyw7]; exact y7
  have hxw8 := Nat.lt_of_lt_of_le hxw7 b8.size
  have hyw8 := Nat.lt_of_lt_of_le hyw7 b8.size
  clear hk b8 x7 y7 hxw7 hyw7 hs8 hl8
  have hc1 := fun t => cell_of_row w8 lb t _ _ (0, 0) x8
  have hc2 := fun t => cell_of_row w8 xb t _ _ (0, 0) y8
  have e0 := hc1 0; have e1 := hc1 1; have e2 := hc1 2; have e3 := hc1 3
  have f0 := hc2 0; have f1 := hc2 1; have f2 := hc2 2; have f3 := hc2 3
  simp only [List.getElem?_toArray, List.getElem?_cons_succ, List.getElem?_cons_zero] at e0 e1 e2 e3 f0 f1 f2 f3
  clear hc1 hc2 x8 y8
  go_wp2_with fail
  have hle := HC.out.len H8.out fit1
  rw [cnt1] at hle
  refine hle.mono ?_
  rintro e w10 ⟨rfl, b10⟩
  have H10 := Lib.hid (HC.out.kept H8.out (Turn.of_below (fun _ => False) b10 (Nat.le_refl _)) (fun _ _ _ f => f))
  have B10 := Lib.hid (B8.out.trans (b10.mono B8.out.size))
  clear hle b10 e0 e1 e2 e3 f0 f1 f2 f3
  go_wp2_with fail
  have hca := HC.out.cap H10.out fit1
  rw [len1] at hca
  refine hca.mono ?_
  rintro e w11 ⟨rfl, b11⟩
  have B11 := Lib.hid (B10.out.trans (b11.mono B10.out.size))
  clear hca b11
  go_wp2_with fail
  go_ret
  exact ⟨rfl, B11.out⟩

/-- Is a script short? -/
def shortK (l : List Kop) : Prop := l.length ≤ 150 ∧ ∀ o ∈ l, o.k.length ≤ 100

set_option maxRecDepth 100000 in
set_option maxHeartbeats 400000 in
theorem light_any (l : List Kop) (a : Option Addr) (cap : Nat) (w w0 : World) (hl : l.length ≤ 9223372036854775807) (hK : KopsIn w0 a l) (hf : ∀ o ∈ l, o.fit) (hb : Below w0.heap.size w0 w) :
    Calls Tryd.prog 7 #[.slice a l.length cap] w fun e w' => ∃ b : Bool, (b = true → shortK l) ∧ e = .returned (.bool b) ∧ w = w' := by
  obtain ⟨L, hL⟩ : ∃ L, L = l.length := ⟨_, rfl⟩
  obtain ⟨m, hm⟩ : ∃ m, m = min L 200 := ⟨_, rfl⟩
  rw [← hL] at hl ⊢
  have HL := Lib.hid hL; have HK := Lib.hid hK; have HB := Lib.hid hb; have HF := Lib.hid hf
  have hm1 : m ≤ L := by omega
  have hm2 : m ≤ 200 := by omega
  have HM := Lib.hid hm
  clear hL hK hb hm hf
  go_enter Tryd.func7, Tryd.ntmps7
  go_wp2
  go_loopg [3] m (fun g it wr => ∃ i : Nat, i + g = m ∧ it = .int .i64 i ∧ (∀ o ∈ l.take i, o.k.length ≤ 100) ∧ w = wr)
  case atStart => exact ⟨0, by omega, rfl, fun o ho => by simp at ho, rfl⟩
  case round =>
    obtain ⟨i, hi, rfl, hsh, rfl⟩ := hrel
    have HS := Lib.hid hsh
    clear hsh
    by_cases hlt : i < m
    · obtain ⟨o, ho⟩ : ∃ o, l[i]? = some o := ⟨l[i]'(by have := HL.out; omega), List.getElem?_eq_getElem _⟩
      obtain ⟨b, off, rfl, _, c0, c1, c2, c3, c4, c5⟩ := HK.out.at HB.out (Nat.le_refl _) i o ho
      have hi2 : i < L := by omega
      have hi3 : i < 200 := by omega
      have HO := Lib.hid ho
      have hko := (HF.out o (List.mem_of_getElem? ho)).2
      have hks : (bs o.k).size = o.k.length := bs_size _
      clear ho c0 c2 c3 c4 c5
      by_cases hk : 100 < (bs o.k).size
      · generalize bs o.k = kb at *
        go_wp2
        go_ret
        exact ⟨false, fun h => (by cases h), rfl, rfl⟩
      · have HSN : Hid (∀ o ∈ l.take (i + 1), o.k.length ≤ 100) := Lib.hid (fun o' ho' => by
          rw [List.take_add_one, HO.out] at ho'
          rcases List.mem_append.1 ho' with h | h
          · exact HS.out _ h
          · simp at h; subst h; omega)
        generalize bs o.k = kb at *
        go_wp2
        go_roundg (gk - 1)
        case measure => omega
        case rel => exact ⟨i + 1, by omega, by go_num, HSN.out, rfl⟩
    · obtain rfl : i = m := by omega
      by_cases hiL : i < L
      · have h200 : i = 200 := by have := HM.out; omega
        subst h200
        go_wp2
        go_ret
        exact ⟨false, fun h => (by cases h), congrArg (fun v => Ending.returned (.bool v)) (decide_eq_false (by omega)), rfl⟩
      · obtain rfl : i = L := by omega
        go_wp2
        go_ret
        refine ⟨decide ((i : Int) ≤ 150), fun h => ⟨?_, fun o ho => HS.out o ?_⟩, rfl, rfl⟩
        · rw [decide_eq_true_eq] at h
          have := HL.out; omega
        · rw [List.take_of_length_le (by rw [← HL.out]; exact Nat.le_refl _)]; exact ho
end Go.Proofs.YtbjginlhgedjdaaDoor.K
