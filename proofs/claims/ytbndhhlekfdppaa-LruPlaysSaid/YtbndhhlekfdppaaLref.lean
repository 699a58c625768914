/- The document's cache in memory; the first of its calls. -/
import Derived.Test.YtbndhhlekfdppaaLmath
import Derived.Test.YtbndhhlekfdppaaBrow
import Derived.WalkKit
import Derived.WalkSpells
import Derived.WalkLawsBesides
import Derived.Deep.QuietTactic
import Derived.BigQuiet
import Derived.Deep.DeepCutAuto
import Derived.Lib.Hide
import Derived.Lib.Strings
import Derived.Laws.IdiomStrings
namespace Go.Proofs.Ytbndhhlekfdppaa.L
open Go.RowKit
set_option linter.unusedVariables false

/-- The cells of items. -/
def iflat : List It → List Value
  | [] => []
  | x :: r => .int .i64 x.1.seg :: .int .i64 x.1.n :: .string (bs x.2) :: iflat r
theorem iflat_len : ∀ l : List It, (iflat l).length = l.length * 3
  | [] => rfl
  | x :: r => by simp [iflat, iflat_len r]; omega
theorem iflat_append : ∀ a b : List It, iflat (a ++ b) = iflat a ++ iflat b
  | [], _ => rfl
  | x :: r, b => by simp [iflat, iflat_append r b]
theorem iflat_at : ∀ (l : List It) (i : Nat) (x : It), l[i]? = some x → (iflat l)[i * 3]? = some (.int .i64 x.1.seg) ∧ (iflat l)[i * 3 + 1]? = some (.int .i64 x.1.n) ∧ (iflat l)[i * 3 + 2]? = some (.string (bs x.2))
  | [], i, x, h => by simp at h
  | y :: r, 0, x, h => by
    obtain rfl : y = x := by simpa using h
    exact ⟨rfl, rfl, rfl⟩
  | y :: r, i + 1, x, h => by
    have := iflat_at r i x (by simpa using h)
    rw [show (i + 1) * 3 = i * 3 + 3 by omega, show i * 3 + 3 + 1 = i * 3 + 1 + 3 by omega, show i * 3 + 3 + 2 = i * 3 + 2 + 3 by omega]
    exact this
theorem iflat_one : ∀ (l : List It), ∀ u ∈ iflat l, u.oneCell' = true
  | [], u, h => by simp [iflat] at h
  | x :: r, u, h => by
    simp only [iflat, List.mem_cons] at h
    rcases h with rfl | rfl | rfl | h
    · rfl
    · rfl
    · rfl
    · exact iflat_one r u h
theorem iflat_take : ∀ (l : List It) (n : Nat), iflat (l.take n) = (iflat l).take (n * 3)
  | [], n => by simp [iflat]
  | x :: r, 0 => by simp [iflat]
  | x :: r, n + 1 => by rw [List.take_succ_cons, iflat, iflat, iflat_take r n, show (n + 1) * 3 = n * 3 + 1 + 1 + 1 by omega]; rfl
/-- A row of items. -/
def Items (w : World) (B : Nat) (v : Value) (l : List It) : Prop := w.ownsRow B 56 3 v l.length (iflat l)
theorem infoItem : (Try.prog.info? 56).map (fun i => (i.zero, i.size, i.bytes)) = some (some (.agg #[.int .i64 0, .int .i64 0, .string ⟨#[]⟩]), 3, 32) := by kernel_rfl
theorem items_at {w : World} {B : Nat} {a : Option Addr} {n c : Nat} {l : List It} (h : Items w B (.slice a n c) l) (hn : n = l.length) {i : Nat} {x : It} (hx : l[i]? = some x) :
    ∃ g, a = some ⟨g, 0, none⟩ ∧ B ≤ g ∧ g < w.heap.size ∧ w.cell? ⟨g, i * 3, none⟩ = some (.int .i64 x.1.seg) ∧ w.cell? ⟨g, i * 3 + 1, none⟩ = some (.int .i64 x.1.n) ∧ w.cell? ⟨g, i * 3 + 2, none⟩ = some (.string (bs x.2)) := by
  have hi := (List.getElem?_eq_some_iff.1 hx).1
  subst hn
  obtain ⟨g, rfl, h1, h2, h3⟩ := row_at h (by omega)
  obtain ⟨e0, e1, e2⟩ := iflat_at l i x hx
  exact ⟨g, rfl, h1, h2, by rw [h3 _ (by omega)]; exact e0, by rw [h3 _ (by omega)]; exact e1, by rw [h3 _ (by omega)]; exact e2⟩

/-- The document's cache: block qb, its items in the slice v. -/
structure Rf (B : Nat) (w : World) (qb : Nat) (most : Nat) (v : Value) (l : List It) : Prop where
  blk : w.heap[qb]? = some (.cells #[.int .i64 (most : Int), v] 44 (0, 0))
  row : Items w B v l
  base : B ≤ qb ∧ B ≤ w.heap.size
  ok : Ok most l
  most : most ≤ 64
def foot (qb : Nat) (v : Value) (k : Nat) : Prop := k = qb ∨ v.ownBlock = some k
section
variable {B qb most : Nat} {v : Value} {l : List It} {w w' : World}
theorem Rf.lt (h : Rf B w qb most v l) {k : Nat} (hk : foot qb v k) : B ≤ k ∧ k < w.heap.size := by
  rcases hk with rfl | hk
  · exact ⟨h.base.1, (Array.getElem?_eq_some_iff.1 h.blk).1⟩
  · exact h.row.lt k hk
theorem Rf.kept {G : Nat → Prop} (h : Rf B w qb most v l) (t : Turn G w w') (hG : ∀ k, foot qb v k → ¬ G k) : Rf B w' qb most v l :=
  ⟨(t.block qb (h.lt (Or.inl rfl)).2 (hG qb (Or.inl rfl))).trans h.blk, owns_kept h.row (fun g hg => t.block g (h.lt (Or.inr hg)).2 (hG g (Or.inr hg))), ⟨h.base.1, Nat.le_trans h.base.2 t.size⟩, h.ok, h.most⟩
theorem Rf.below (h : Rf B w qb most v l) (hb : Below w.heap.size w w') : Rf B w' qb most v l := h.kept (Turn.of_below (fun _ => False) hb (Nat.le_refl _)) (fun _ _ f => f)
theorem Rf.cells (h : Rf B w qb most v l) : w.cell? ⟨qb, 0, none⟩ = some (.int .i64 (most : Int)) ∧ w.cell? ⟨qb, 1, none⟩ = some v ∧ (∀ j, w.frozen? ⟨qb, j, none⟩ = false) := by
  have hc := fun t => cell_of_row w qb t _ _ (0, 0) h.blk
  exact ⟨by rw [hc]; rfl, by rw [hc]; rfl, fun j => by simp [World.frozen?, h.blk]⟩
/-- Its items are laid anew. -/
theorem Rf.set (h : Rf B w qb most v l) {v' : Value} {l' : List It} (hrow : Items w B v' l') (hok : Ok most l') : Rf B (w.setCell ⟨qb, 1, none⟩ v') qb most v' l' := by
  refine ⟨heap_setCell_same w qb 1 _ _ v' h.blk, owns_kept hrow (fun g hg => Below.heap_setCell _ _ _ _ (fun e => ?_)), ⟨h.base.1, by simpa using h.base.2⟩, hok, h.most⟩
  rcases hrow.2 with ⟨rfl, _⟩ | ⟨g', cap, cur, rfl, _, hgb, _⟩
  · simp [Value.ownBlock] at hg
  · obtain rfl : g' = g := by simpa [Value.ownBlock] using hg
    rw [show g' = qb from e, h.blk] at hgb
    simp at hgb
end
/-- What is behind a call. -/
def RfPost (B : Nat) (w : World) (qb most : Nat) (v : Value) (l' : List It) (r : Value) (e : Ending) (w' : World) : Prop :=
  e = .returned r ∧ ∃ v', Rf B w' qb most v' l' ∧ (∀ k, foot qb v' k → foot qb v k ∨ w.heap.size ≤ k) ∧ Turn (foot qb v) w w'

def blkV (b : Bk) : Value := .agg #[.int .i64 b.seg, .int .i64 b.n]

theorem refnew_no (most : Int) (w : World) (hm : most < 1 ∨ 64 < most) : Calls Try.prog 7 #[.int .i64 most] w fun e w' => e = .returned (.tuple #[.pointer none, .int .i64 1]) ∧ w = w' := by
  rcases hm with hm | hm
  · go_enter Try.func7, Try.ntmps7
    go_wp2
    go_ret2
    exact ⟨rfl, rfl⟩
  · have h2 : ¬ most < 1 := by omega
    go_enter Try.func7, Try.ntmps7
    go_wp2
    go_ret2
    exact ⟨rfl, rfl⟩
theorem refnew_yes (most : Nat) (w : World) (h1 : 1 ≤ most) (h2 : most ≤ 64) : Calls Try.prog 7 #[.int .i64 (most : Int)] w fun e w' => ∃ qb v, e = .returned (.tuple #[.pointer (some ⟨qb, 0, none⟩), .int .i64 0]) ∧ Rf w.heap.size w' qb most v [] ∧ Below w.heap.size w w' := by
  have q1 : ¬ (most : Int) < 1 := by omega
  have q2 : ¬ (64 : Int) < (most : Int) := by omega
  go_enter Try.func7, Try.ntmps7
  go_wp2
  go_ret2
  exact ⟨w.heap.size, rfl, ⟨.slice none 0 0, heap_alloc_new w _, World.ownsRow_nil _ _ _ _, ⟨Nat.le_refl _, by simp⟩, ok_nil _, h2⟩, (Below.refl _ _).alloc (Nat.le_refl _) _⟩

theorem src_one3 (w : World) (xs xn : Int) (xt : ByteArray) : Src Try.prog 3 42 (.slice (some ⟨w.heap.size, 0, none⟩) 1 1) 1 [.int .i64 xs, .int .i64 xn, .string xt] (w.alloc (.cells #[.int .i64 xs, .int .i64 xn, .string xt] 56)) :=
  Src.ofSlice _ Try.underlying42 ⟨w.heap.size, 0, none⟩ 1 1 _ rfl (fun j u hu => by
    rw [Addr.add_lit, Nat.zero_add, cell_of_row _ w.heap.size j _ _ (0, 0) (heap_alloc_new w _)]
    simpa using hu) (fun u hu => by simp at hu; rcases hu with rfl | rfl | rfl <;> rfl)
set_option maxHeartbeats 1000000 in
theorem refwithout_any {B qb most : Nat} {v : Value} {l : List It} {w : World} (h : Rf B w qb most v l) (b : Bk) :
    Calls Try.prog 17 #[.pointer (some ⟨qb, 0, none⟩), blkV b] w fun e w' => ∃ u, e = .returned u ∧ Items w' w.heap.size u (wo l b) ∧ Below w.heap.size w w' := by
  have hb0 : Below w.heap.size w (w.alloc (.cells #[.int .i64 b.seg, .int .i64 b.n] 32)) := (Below.refl _ _).alloc (Nat.le_refl _) _
  have h1 := h.below hb0
  obtain ⟨c0, c1, fz⟩ := h1.cells
  clear fz c0
  obtain ⟨a, cap, rfl⟩ := slice_form h1.row
  obtain ⟨L, hL⟩ : ∃ L, L = l.length := ⟨_, rfl⟩
  have hq := (h1.lt (Or.inl rfl)).2
  have hfew : L ≤ 64 := by have := h.ok.few; have := h.most; omega
  have HR := Lib.hid h1.row
  rw [← hL] at c1 HR
  have HL := Lib.hid hL
  obtain ⟨i0, hi0, hz0, hz1, hz2⟩ := info_parts infoItem
  have HI := Lib.hid (And.intro hi0 (And.intro hz0 (And.intro hz1 hz2)))
  have y0 := heap_alloc_new w (.cells #[.int .i64 b.seg, .int .i64 b.n] 32)
  obtain ⟨bb, hbb⟩ : ∃ bb, bb = w.heap.size := ⟨_, rfl⟩
  have hbl : w.heap.size < (w.alloc (.cells #[.int .i64 b.seg, .int .i64 b.n] 32)).heap.size := by simp
  have HB0 := Lib.hid hb0
  clear hL h h1 hi0 hz0 hz1 hz2 hb0
  unfold blkV
  go_enter Try.func17, Try.ntmps17
  go_wp2
  generalize hW0 : World.alloc w _ = W0 at *
  rw [← hbb] at y0 hbl ⊢
  have hcl := fun t => cell_of_row W0 bb t _ _ (0, 0) y0
  have f0 := hcl 0; have f1 := hcl 1
  simp only [List.getElem?_toArray, List.getElem?_cons_succ, List.getElem?_cons_zero] at f0 f1
  clear hcl hW0 y0 hbb
  go_loopg [5, 6] L (fun g s it wr => ∃ (i : Nat) (u : Value), i + g = L ∧ it = .int .i64 i ∧ u = s ∧ Items wr W0.heap.size u (wo (l.take i) b) ∧ Below W0.heap.size W0 wr)
  case atStart => exact ⟨0, _, by omega, rfl, rfl, World.ownsRow_nil _ _ _ _, Below.refl _ _⟩
  case round =>
    obtain ⟨i, u, hi, rfl, rfl, hown, hbw⟩ := hrel
    have c1w := (hbw.cell (p := ⟨qb, 1, none⟩) hq).trans c1
    by_cases hlt : i < L
    · obtain ⟨x, hx⟩ : ∃ x, l[i]? = some x := ⟨l[i]'(by have := HL.out; omega), List.getElem?_eq_getElem _⟩
      obtain ⟨g, hg, _, hgl, d0, d1, d2⟩ := items_at HR.out HL.out hx
      subst hg
      have e0 := (hbw.cell (p := ⟨g, _, none⟩) hgl).trans d0
      have e1 := (hbw.cell (p := ⟨g, _, none⟩) hgl).trans d1
      have e2 := (hbw.cell (p := ⟨g, _, none⟩) hgl).trans d2
      have k0 := (hbw.cell (p := ⟨bb, 0, none⟩) hbl).trans f0
      have k1 := (hbw.cell (p := ⟨bb, 1, none⟩) hbl).trans f1
      have htk : wo (l.take (i + 1)) b = if x.1 = b then wo (l.take i) b else wo (l.take i) b ++ [x] := by rw [List.take_add_one, hx]; exact wo_snoc _ _ _
      have hml : (wo (l.take i) b).length ≤ i := Nat.le_trans (wo_len _ _) (List.length_take_le _ _)
      have hbz := hbw.size
      have HBW := Lib.hid hbw; have HO := Lib.hid hown
      clear hx d0 d1 d2 hown hbw
      by_cases hb : x.1 = b
      · have b1 : (x.1.seg == b.seg) = true := by rw [hb]; simp
        have b2 : (x.1.n == b.n) = true := by rw [hb]; simp
        rw [if_pos hb] at htk
        have HT := Lib.hid htk
        clear htk hb
        generalize x.1.seg = xs at *
        generalize x.1.n = xn at *
        generalize b.seg = ys at *
        generalize b.n = yn at *
        go_wp2
        go_quiet (fail)
        have bq := below_drewN (Below.refl wr.heap.size wr) nq
        have HO2 := Lib.hid (owns_kept HO.out (fun g hg => bq.block g (HO.out.lt g hg).2) : Items (wr.drewN nq) W0.heap.size u _)
        have HB2 := Lib.hid (HBW.out.trans (bq.mono hbz))
        generalize wr.drewN nq = w2 at *
        go_wp2
        go_roundg (gk - 1)
        case measure => omega
        case rel => exact ⟨i + 1, _, by omega, by go_num, rfl, by rw [HT.out]; exact HO2.out, HB2.out⟩
      · have hne : (x.1.seg == b.seg) = false ∨ ((x.1.seg == b.seg) = true ∧ (x.1.n == b.n) = false) := by
          obtain ⟨⟨xs, xn⟩, xt⟩ := x
          obtain ⟨ys, yn⟩ := b
          by_cases h1 : xs = ys
          · exact Or.inr ⟨by simpa using h1, by simpa using fun h2 => hb (by rw [h1, h2])⟩
          · exact Or.inl (by simpa using h1)
        rw [if_neg hb] at htk
        have HT := Lib.hid htk
        have hx1 : iflat [x] = [.int .i64 x.1.seg, .int .i64 x.1.n, .string (bs x.2)] := rfl
        have HX1 := Lib.hid hx1
        have HLN := Lib.hid (show (wo (l.take i) b).length + 1 ≤ 1099511627776 by omega)
        clear htk hb hx1
        generalize x.1.seg = xs at *
        generalize x.1.n = xn at *
        generalize bs x.2 = xt at *
        generalize b.seg = ys at *
        generalize b.n = yn at *
        rcases hne with b1 | ⟨b1, b2⟩
        all_goals
          go_wp2
          go_quiet (fail)
          have bq := below_drewN (Below.refl wr.heap.size wr) nq
          have HO2 := Lib.hid (owns_kept HO.out (fun g hg => bq.block g (HO.out.lt g hg).2) : Items (wr.drewN nq) W0.heap.size u _)
          have HB2 := Lib.hid (HBW.out.trans (bq.mono hbz))
          have e0q : (wr.drewN nq).cell? ⟨g, i * 3, none⟩ = some (.int .i64 xs) := e0
          have e1q : (wr.drewN nq).cell? ⟨g, i * 3 + 1, none⟩ = some (.int .i64 xn) := e1
          have e2q : (wr.drewN nq).cell? ⟨g, i * 3 + 2, none⟩ = some (.string xt) := e2
          have c1q : (wr.drewN nq).cell? ⟨qb, 1, none⟩ = some (.slice (some ⟨g, 0, none⟩) L cap) := c1w
          generalize wr.drewN nq = w2 at *
          clear e0 e1 e2 c1w k0 k1 HO HBW bq
          have hz2 := HB2.out.size
          go_wp2_with (at_builtin; refine wpList_append_row _ rfl _ _ 42 rfl W0.heap.size 56 i0 _ 3 32 Try.underlying42 HI.out.1 HI.out.2.1 HI.out.2.2.1 HI.out.2.2.2 (by omega) rfl u _ _ rfl (World.ownsRow.alloc HO2.out _) (.slice (some ⟨w2.heap.size, 0, none⟩) 1 1) 1 [.int .i64 xs, .int .i64 xn, .string xt] rfl (src_one3 w2 xs xn xt) HLN.out (by rw [World.size_alloc]; omega) ?_; intro a' c' w3 h3 hg3 _; have H3 := Lib.hid h3; have HG3 := Lib.hid hg3; clear h3 hg3)
          go_roundg (gk - 1)
          case measure => omega
          case rel =>
            refine ⟨i + 1, _, by omega, by go_num, rfl, ?_, Below.grown (HB2.out.alloc hz2 _) HG3.out (by rw [World.size_alloc]; omega) (fun j hj => (HO2.out.lt j hj).1)⟩
            rw [HT.out]
            unfold Items
            rw [iflat_append, HX1.out, List.length_append]
            exact H3.out
    · obtain rfl : i = L := by omega
      have hall : l.take i = l := List.take_of_length_le (by rw [HL.out]; exact Nat.le_refl _)
      rw [hall] at hown
      obtain ⟨ua, uc, hu⟩ := slice_form hown
      obtain ⟨M, hM⟩ : ∃ M, M = (wo l b).length := ⟨_, rfl⟩
      rw [← hM] at hu
      subst hu
      have HO := Lib.hid hown
      clear hown hM hall
      go_wp2
      go_ret
      exact ⟨_, rfl, row_base HO.out HB0.out.size, HB0.out.trans (hbw.mono HB0.out.size)⟩
end Go.Proofs.Ytbndhhlekfdppaa.L
