/- The document's disk in memory: its own block, a row of files; small calls. -/
import Derived.Test.YtmpipfhlicfagaaDops
import Derived.Deep.DeepCutAuto
import Derived.Deep.RegionHeld3
import Derived.Maps.AppendAt
namespace Go.Proofs.Ytmpipfhlicfagaa
open Go.RowKit
set_option linter.unusedVariables false

/-- The cells of a row of files. -/
def flat : List Fl → List Value
  | [] => []
  | f :: r => .string (bs f.nm) :: .string (bs f.bt) :: .int .i64 f.sure :: flat r

theorem flat_len : ∀ l : List Fl, (flat l).length = l.length * 3
  | [] => rfl
  | f :: r => by simp only [flat, List.length_cons, flat_len r]; omega
theorem flat_append : ∀ a b : List Fl, flat (a ++ b) = flat a ++ flat b
  | [], _ => rfl
  | f :: r, b => by simp [flat, flat_append r b]
theorem flat_at : ∀ (l : List Fl) (i : Nat) (f : Fl), l[i]? = some f → (flat l)[i * 3]? = some (.string (bs f.nm)) ∧ (flat l)[i * 3 + 1]? = some (.string (bs f.bt)) ∧ (flat l)[i * 3 + 2]? = some (.int .i64 f.sure)
  | [], _, _, h => by simp at h
  | g :: r, 0, f, h => by simp at h; subst h; simp [flat]
  | g :: r, i + 1, f, h => by
    have := flat_at r i f (by simpa using h)
    simp only [flat]
    rw [show (i + 1) * 3 = i * 3 + 1 + 1 + 1 by omega]
    simpa using this
theorem flat_one : ∀ l : List Fl, ∀ v ∈ flat l, v.oneCell' = true
  | [], v, h => by simp [flat] at h
  | f :: r, v, h => by
    simp only [flat, List.mem_cons] at h
    rcases h with rfl | rfl | rfl | h
    · rfl
    · rfl
    · rfl
    · exact flat_one r v h
theorem flat_take : ∀ (l : List Fl) (i : Nat), flat (l.take i) = (flat l).take (i * 3)
  | [], i => by simp [flat]
  | f :: r, 0 => by simp [flat]
  | f :: r, i + 1 => by simp [flat, flat_take r i, show (i + 1) * 3 = i * 3 + 1 + 1 + 1 by omega]
theorem flat_drop : ∀ (l : List Fl) (i : Nat), flat (l.drop i) = (flat l).drop (i * 3)
  | [], i => by simp [flat]
  | f :: r, 0 => by simp [flat]
  | f :: r, i + 1 => by simp [flat, flat_drop r i, show (i + 1) * 3 = i * 3 + 1 + 1 + 1 by omega]

/-- A row of files that lies among the blocks from B on. -/
def Files (w : World) (B : Nat) (v : Value) (l : List Fl) : Prop := w.ownsRow B 50 3 v l.length (flat l)

/-- The document's disk. -/
structure Rf (B : Nat) (w : World) (qb : Nat) (lv : Value) (S : St) : Prop where
  blk : w.heap[qb]? = some (.cells #[.int .i64 S.room, lv, .int .i64 S.lit, .bool S.down] 53 (0, 0))
  row : Files w B lv S.fs
  base : B ≤ qb ∧ lv.ownBlock ≠ some qb ∧ B ≤ w.heap.size
  good : Good S

theorem files_cases {w : World} {B : Nat} {v : Value} {l : List Fl} (h : Files w B v l) : (v = .slice none 0 0 ∧ l = []) ∨ ∃ g cap cur, v = .slice (some ⟨g, 0, none⟩) l.length cap ∧ B ≤ g ∧ g < w.heap.size ∧ w.heap[g]? = some (.cells cur 50 (0, 0)) ∧ l.length ≤ cap ∧ cap ≤ maxLen ∧
    cur.size = cap * 3 ∧ (∀ j, j < l.length * 3 → w.cell? ⟨g, j, none⟩ = (flat l)[j]?) ∧ (∀ j, w.frozen? ⟨g, j, none⟩ = false) := by
  obtain ⟨hl, h⟩ := h
  rcases h with ⟨rfl, h0⟩ | ⟨g, cap, cur, rfl, hB, hg, hn, hc, hs, ht⟩
  · exact Or.inl ⟨rfl, List.eq_nil_of_length_eq_zero h0⟩
  · refine Or.inr ⟨g, cap, cur, rfl, hB, (Array.getElem?_eq_some_iff.1 hg).1, hg, hn, hc, hs, fun j hj => ?_, fun j => by simp [World.frozen?, hg]⟩
    rw [cell_of_row w g j cur _ (0, 0) hg, ← ht, List.getElem?_take, if_pos hj]; simp

theorem files_form {w : World} {B : Nat} {v : Value} {l : List Fl} (h : Files w B v l) : ∃ a cap, v = .slice a l.length cap := by
  rcases files_cases h with ⟨rfl, rfl⟩ | ⟨g, cap, _, hv, _⟩
  · exact ⟨none, 0, rfl⟩
  · exact ⟨_, cap, hv⟩

/-- The three cells of file i. -/
theorem files_at {w : World} {B : Nat} {a : Option Addr} {cap n : Nat} {l : List Fl} (h : Files w B (.slice a n cap) l) {i : Nat} {f : Fl} (hf : l[i]? = some f) :
    ∃ g, a = some ⟨g, 0, none⟩ ∧ B ≤ g ∧ g < w.heap.size ∧ w.cell? ⟨g, i * 3, none⟩ = some (.string (bs f.nm)) ∧ w.cell? ⟨g, i * 3 + 1, none⟩ = some (.string (bs f.bt)) ∧ w.cell? ⟨g, i * 3 + 2, none⟩ = some (.int .i64 f.sure) := by
  have hi : i < l.length := (List.getElem?_eq_some_iff.1 hf).1
  rcases files_cases h with ⟨_, rfl⟩ | ⟨g, cap', cur, hv, hB, hg, _, _, _, _, hc, _⟩
  · simp at hi
  · injection hv with e1 e2 e3
    obtain ⟨h0, h1, h2⟩ := flat_at l i f hf
    exact ⟨g, e1, hB, hg, by rw [hc _ (by omega)]; exact h0, by rw [hc _ (by omega)]; exact h1, by rw [hc _ (by omega)]; exact h2⟩

section
variable {B qb : Nat} {lv : Value} {S : St} {w w' : World}

theorem Rf.lt (h : Rf B w qb lv S) : qb < w.heap.size ∧ ∀ g, lv.ownBlock = some g → B ≤ g ∧ g < w.heap.size := ⟨(Array.getElem?_eq_some_iff.1 h.blk).1, h.row.lt⟩

theorem Rf.kept {G : Nat → Prop} (h : Rf B w qb lv S) (t : Turn G w w') (hG : ∀ k, k < w.heap.size → (k = qb ∨ lv.ownBlock = some k) → ¬ G k) : Rf B w' qb lv S := by
  obtain ⟨l1, l2⟩ := h.lt
  exact { h with
    blk := by rw [t.block qb l1 (hG qb l1 (Or.inl rfl))]; exact h.blk
    row := owns_kept h.row (fun g hg => t.block g (l2 g hg).2 (hG g (l2 g hg).2 (Or.inr hg)))
    base := ⟨h.base.1, h.base.2.1, Nat.le_trans h.base.2.2 t.size⟩ }

theorem Rf.below (h : Rf B w qb lv S) (t : Below w.heap.size w w') : Rf B w' qb lv S := h.kept (Turn.of_below (fun _ => False) t (Nat.le_refl _)) (fun _ _ _ f => f)

/-- Its own block alone has turned, and maybe its files lie elsewhere now. -/
theorem Rf.head (h : Rf B w qb lv S) (t : Turn (fun k => k = qb) w w') {S' : St} {lv' : Value}
    (hp : w'.heap[qb]? = some (.cells #[.int .i64 S'.room, lv', .int .i64 S'.lit, .bool S'.down] 53 (0, 0)))
    (hrow : Files w' B lv' S'.fs) (hne : lv'.ownBlock ≠ some qb) (hg : Good S') : Rf B w' qb lv' S' :=
  ⟨hp, hrow, ⟨h.base.1, hne, Nat.le_trans h.base.2.2 t.size⟩, hg⟩

theorem Rf.cells (h : Rf B w qb lv S) : w.cell? ⟨qb, 0, none⟩ = some (.int .i64 S.room) ∧ w.cell? ⟨qb, 1, none⟩ = some lv ∧ w.cell? ⟨qb, 2, none⟩ = some (.int .i64 S.lit) ∧ w.cell? ⟨qb, 3, none⟩ = some (.bool S.down) ∧ (∀ j, w.frozen? ⟨qb, j, none⟩ = false) := by
  have hc : ∀ j, w.cell? ⟨qb, j, none⟩ = (#[Value.int .i64 S.room, lv, .int .i64 S.lit, .bool S.down])[j]? := fun j => cell_of_row w qb j _ _ (0, 0) h.blk
  exact ⟨by rw [hc]; rfl, by rw [hc]; rfl, by rw [hc]; rfl, by rw [hc]; rfl, fun j => by simp [World.frozen?, h.blk]⟩

theorem Rf.setAt (h : Rf B w qb lv S) (j : Nat) (v : Value) : (w.setCell ⟨qb, j, none⟩ v).heap[qb]? = some (.cells ((#[Value.int .i64 S.room, lv, .int .i64 S.lit, .bool S.down]).setIfInBounds j v) 53 (0, 0)) :=
  heap_setCell_same w qb j _ _ v h.blk
end

/-! ### right, burn -/
theorem refright_is {n : List UInt8} {b : Bool} (hb : rightName n = b) (w : World) (hn : n.length ≤ maxLen) :
    Calls Try.prog 36 #[.string (bs n)] w fun e w' => e = .returned (.bool b) ∧ w = w' := by
  subst hb
  have hn' := hn
  unfold maxLen at hn'
  by_cases h1 : 1 ≤ n.length
  · have hr : rightName n = decide (n.length ≤ 20) := by simp [rightName, h1]
    rw [hr]
    have hsz : (bs n).size = n.length := bs_size n
    have HS := Lib.hid hsz; clear hsz hr hn
    have hb1 : (bs n).size ≤ 9223372036854775807 := by rw [HS.out]; omega
    have hb2 : 1 ≤ (bs n).size := by rw [HS.out]; omega
    by_cases h2 : n.length ≤ 20
    · have hb3 : (bs n).size ≤ 20 := by rw [HS.out]; omega
      have hd : decide (n.length ≤ 20) = true := by simpa using h2
      rw [hd]; clear hd
      go_enter Try.func36, Try.ntmps36
      go_wp2
      go_ret
      exact ⟨by simp; omega, rfl⟩
    · have hb3 : 20 < (bs n).size := by rw [HS.out]; omega
      have hd : decide (n.length ≤ 20) = false := by simpa using h2
      rw [hd]; clear hd
      go_enter Try.func36, Try.ntmps36
      go_wp2
      go_ret
      exact ⟨by simp; omega, rfl⟩
  · have hr : rightName n = false := by simp [rightName]; omega
    rw [hr]
    have hsz : (bs n).size = n.length := bs_size n
    have HS := Lib.hid hsz; clear hsz hr hn
    have hb2 : (bs n).size < 1 := by rw [HS.out]; omega
    go_enter Try.func36, Try.ntmps36
    go_wp2
    go_ret
    exact ⟨rfl, rfl⟩

theorem good_burnt {S : St} (h : Good S) : Good (burnt S) := by
  obtain ⟨g1, g2, g3, g4, g5, g6⟩ := h
  refine ⟨by rw [fs_burnt]; exact g1, by rw [fs_burnt]; exact g2, by rw [fs_burnt]; exact g3, by rw [fs_burnt, room_burnt]; exact g4, by rw [room_burnt]; exact g5, ?_⟩
  unfold burnt
  split
  · rename_i hb
    dsimp only
    have : S.lit ≠ 0 := by simp [burns] at hb; exact hb.2
    split <;> omega
  · exact g6

set_option maxHeartbeats 1000000 in
theorem refburn_is {B qb : Nat} {lv : Value} {S : St} {w : World} (h : Rf B w qb lv S) {b : Bool} (hbb : burns S = b) :
    Calls Try.prog 37 #[.pointer (some ⟨qb, 0, none⟩)] w fun e w' => e = .returned (.bool b) ∧ Rf B w' qb lv (burnt S) ∧ Turn (fun k => k = qb) w w' := by
  subst hbb
  obtain ⟨c0, c1, c2, c3, fz⟩ := h.cells
  have f2 := fz 2
  have f3 := fz 3
  clear fz
  have hgb := good_burnt h.good
  have hlit := h.good.lit
  have HSet3 := Lib.hid (h.setAt 3 (.bool true))
  have HSet2 := Lib.hid (h.setAt 2 (.int .i64 (S.lit - 1)))
  have hrow3 : Files (w.setCell ⟨qb, 3, none⟩ (.bool true)) B lv S.fs := owns_kept h.row (fun g hg => Below.heap_setCell _ _ _ _ (fun e => h.base.2.1 (by rw [hg, e])))
  have hrow2 : Files (w.setCell ⟨qb, 2, none⟩ (.int .i64 (S.lit - 1))) B lv S.fs := owns_kept h.row (fun g hg => Below.heap_setCell _ _ _ _ (fun e => h.base.2.1 (by rw [hg, e])))
  by_cases hd : S.down = true
  · have hb : burns S = false := by simp [burns, hd]
    have hbt : burnt S = { S with down := true } := by simp [burnt, hb]
    rw [hbt] at hgb
    have HB := Lib.hid hb; have HT := Lib.hid hbt; clear hb hbt
    rw [hd] at c3
    have HD := Lib.hid hd; clear hd
    go_enter Try.func37, Try.ntmps37
    go_wp2
    go_ret
    refine ⟨ret_bool HB.out.symm, ?_, turn_head w qb _ _⟩
    rw [HT.out]
    exact h.head (turn_head w qb 3 _) HSet3.out hrow3 h.base.2.1 hgb
  · have hd' : S.down = false := by simpa using hd
    clear hd
    rw [hd'] at c3
    by_cases hu0 : S.lit = 0
    · have hb : burns S = false := by simp [burns, hu0]
      have hbt : burnt S = { S with down := true } := by simp [burnt, hb]
      rw [hbt] at hgb
      rw [hu0] at c2
      have HB := Lib.hid hb; have HT := Lib.hid hbt; clear hb hbt
      have HD := Lib.hid hd'; clear hd'
      have HU := Lib.hid hu0; clear hu0
      go_enter Try.func37, Try.ntmps37
      go_wp2
      go_ret
      refine ⟨ret_bool HB.out.symm, ?_, turn_head w qb _ _⟩
      rw [HT.out]
      exact h.head (turn_head w qb 3 _) HSet3.out hrow3 h.base.2.1 hgb
    · have hne : (S.lit == 0) = false := by simpa using hu0
      have hb : burns S = true := by simp [burns, hd', hu0]
      by_cases hpos : 0 < S.lit
      · have hbt : burnt S = { S with lit := S.lit - 1 } := by simp [burnt, hb, hpos]
        rw [hbt] at hgb
        have HB := Lib.hid hb; have HT := Lib.hid hbt; clear hb hbt
        have HD := Lib.hid hd'; clear hd'
        have HU := Lib.hid hu0; clear hu0
        go_enter Try.func37, Try.ntmps37
        go_wp2
        go_ret
        refine ⟨ret_bool HB.out.symm, ?_, turn_head w qb _ _⟩
        rw [HT.out]
        exact h.head (turn_head w qb 2 _) HSet2.out hrow2 h.base.2.1 hgb
      · have hneg : S.lit < 0 := by omega
        have hbt : burnt S = S := by simp [burnt, hb, hpos]
        have HB := Lib.hid hb; have HT := Lib.hid hbt; clear hb hbt
        have HD := Lib.hid hd'; clear hd'
        have HU := Lib.hid hu0; clear hu0
        go_enter Try.func37, Try.ntmps37
        go_wp2
        go_ret
        refine ⟨ret_bool HB.out.symm, ?_, Turn.refl _ w⟩
        rw [HT.out]
        exact h

/-! ### at, Left, List -/
theorem refat_no {B qb : Nat} {lv : Value} {S : St} {w : World} {n : List UInt8} (h : Rf B w qb lv S) (hf : find S.fs n = none) (hcs : S.fs.length < 1000000000) :
    Calls Try.prog 38 #[.pointer (some ⟨qb, 0, none⟩), .string (bs n)] w fun e w' => e = .returned (.int .i64 (-1)) ∧ w = w' := by
  obtain ⟨c0, c1, c2, c3, fz⟩ := h.cells
  clear fz
  obtain ⟨a, cap, hv⟩ := files_form h.row
  obtain ⟨L, hL⟩ : ∃ L, L = S.fs.length := ⟨_, rfl⟩
  have hrow := h.row
  rw [hv] at hrow c1
  rw [← hL] at hrow c1 hcs
  have HL := Lib.hid hL; have HR := Lib.hid hrow; have HF := Lib.hid (find_none hf)
  clear hL hrow hf hv
  go_enter Try.func38, Try.ntmps38
  go_wp2
  go_loopg [5] L (fun g it wr => ∃ i : Nat, i + g = L ∧ it = .int .i64 i ∧ w = wr)
  case atStart => exact ⟨0, by omega, rfl, rfl⟩
  case round =>
    obtain ⟨i, hi, rfl, rfl⟩ := hrel
    by_cases hlt : i < L
    · obtain ⟨f, hf⟩ : ∃ f, S.fs[i]? = some f := ⟨S.fs[i]'(by have := HL.out; omega), List.getElem?_eq_getElem _⟩
      obtain ⟨g, hg, _, _, d0, d1, d2⟩ := files_at HR.out hf
      subst hg
      have hne := HF.out f (List.mem_of_getElem? hf)
      have hneq : ((bs f.nm).toList == (bs n).toList) = false := by rw [bs_toList, bs_toList]; simpa using hne
      have HF2 := Lib.hid hf; clear hf hne
      go_wp2
      go_roundg (gk - 1)
      case measure => omega
      case rel => exact ⟨i + 1, by omega, by go_num, rfl⟩
    · obtain rfl : i = L := by omega
      go_wp2
      go_ret
      exact ⟨rfl, rfl⟩

theorem refat_yes {B qb : Nat} {lv : Value} {S : St} {w : World} {n : List UInt8} {f : Fl} {i : Nat} (h : Rf B w qb lv S) (hi : S.fs[i]? = some f) (hf : f.nm = n) (hcs : S.fs.length < 1000000000) :
    Calls Try.prog 38 #[.pointer (some ⟨qb, 0, none⟩), .string (bs n)] w fun e w' => e = .returned (.int .i64 i) ∧ w = w' := by
  obtain ⟨c0, c1, c2, c3, fz⟩ := h.cells
  clear fz
  obtain ⟨a, cap, hv⟩ := files_form h.row
  obtain ⟨L, hL⟩ : ∃ L, L = S.fs.length := ⟨_, rfl⟩
  have hrow := h.row
  have hup := h.good.up
  rw [hv] at hrow c1
  rw [← hL] at hrow c1 hcs
  have hil : i < L := by rw [hL]; exact (List.getElem?_eq_some_iff.1 hi).1
  have hbef : ∀ j g, j < i → S.fs[j]? = some g → g.nm ≠ n := fun j g hj hg e => by
    have h1 : f ∈ S.fs := List.mem_of_getElem? hi
    have h2 : g ∈ S.fs := List.mem_of_getElem? hg
    have e2 := up_inj hup h2 h1 (e.trans hf.symm)
    subst e2
    have hp : S.fs.Pairwise (fun a b => lt a.nm b.nm = true) := hup
    have hjl : j < S.fs.length := (List.getElem?_eq_some_iff.1 hg).1
    have hil' : i < S.fs.length := (List.getElem?_eq_some_iff.1 hi).1
    have hlt := List.pairwise_iff_getElem.1 hp j i hjl hil' hj
    rw [(List.getElem?_eq_some_iff.1 hg).2, (List.getElem?_eq_some_iff.1 hi).2, lt_irrefl] at hlt
    cases hlt
  have HL := Lib.hid hL; have HR := Lib.hid hrow; have HB := Lib.hid hbef; have HI := Lib.hid hi; have HF := Lib.hid hf
  clear hL hrow hbef hi hv hf hup
  go_enter Try.func38, Try.ntmps38
  go_wp2
  go_loopg [5] i (fun g it wr => ∃ j : Nat, j + g = i ∧ it = .int .i64 j ∧ w = wr)
  case atStart => exact ⟨0, by omega, rfl, rfl⟩
  case round =>
    obtain ⟨j, hj, rfl, rfl⟩ := hrel
    have hjL : j < L := by omega
    obtain ⟨x, hx⟩ : ∃ x, S.fs[j]? = some x := ⟨S.fs[j]'(by have := HL.out; omega), List.getElem?_eq_getElem _⟩
    obtain ⟨g, hg, _, _, d0, d1, d2⟩ := files_at HR.out hx
    subst hg
    by_cases hlt : j < i
    · have hne := HB.out j x hlt hx
      have hneq : ((bs x.nm).toList == (bs n).toList) = false := by rw [bs_toList, bs_toList]; simpa using hne
      have HX := Lib.hid hx; clear hx hne
      go_wp2
      go_roundg (gk - 1)
      case measure => omega
      case rel => exact ⟨j + 1, by omega, by go_num, rfl⟩
    · obtain rfl : j = i := by omega
      have hxf : x = f := by rw [HI.out] at hx; exact (Option.some.inj hx).symm
      have heq : ((bs x.nm).toList == (bs n).toList) = true := by rw [bs_toList, bs_toList, hxf, HF.out]; simp
      clear hx hxf
      go_wp2
      go_ret
      exact ⟨rfl, rfl⟩

theorem refleft_any {B qb : Nat} {lv : Value} {S : St} {w : World} (h : Rf B w qb lv S) (hcs : S.fs.length < 1000000000) :
    Calls Try.prog 29 #[.pointer (some ⟨qb, 0, none⟩)] w fun e w' => e = .returned (.int .i64 (left S)) ∧ w = w' := by
  obtain ⟨c0, c1, c2, c3, fz⟩ := h.cells
  clear fz
  obtain ⟨a, cap, hv⟩ := files_form h.row
  obtain ⟨L, hL⟩ : ∃ L, L = S.fs.length := ⟨_, rfl⟩
  have hrow := h.row
  have hfit := h.good.fits
  have hroom := h.good.room
  rw [hv] at hrow c1
  rw [← hL] at hrow c1 hcs
  have HL := Lib.hid hL; have HR := Lib.hid hrow; have HF := Lib.hid hfit
  clear hL hrow hv
  go_enter Try.func29, Try.ntmps29
  go_wp2
  go_loopg [3, 4] L (fun g s it wr => ∃ i : Nat, i + g = L ∧ it = .int .i64 i ∧ s = .int .i64 (S.room - (total (S.fs.take i) : Nat)) ∧ w = wr)
  case atStart => exact ⟨0, by omega, rfl, by simp [total], rfl⟩
  case round =>
    obtain ⟨i, hi, rfl, rfl, rfl⟩ := hrel
    have hroom' := hroom
    by_cases hlt : i < L
    · obtain ⟨f, hf⟩ : ∃ f, S.fs[i]? = some f := ⟨S.fs[i]'(by have := HL.out; omega), List.getElem?_eq_getElem _⟩
      obtain ⟨g, hg, _, _, d0, d1, d2⟩ := files_at HR.out hf
      subst hg
      have htk : total (S.fs.take (i + 1)) = total (S.fs.take i) + f.bt.length := by
        rw [List.take_add_one, hf, total_append]; simp [total]
      have htl : total (S.fs.take (i + 1)) ≤ total S.fs := by
        have := total_append (S.fs.take (i + 1)) (S.fs.drop (i + 1))
        rw [List.take_append_drop] at this
        omega
      have hfo := HF.out
      have q1 : 0 ≤ S.room - (total (S.fs.take i) : Nat) ∧ S.room - (total (S.fs.take i) : Nat) ≤ 1048576 := by omega
      obtain ⟨q2, q3⟩ := q1
      have q4 : (bs f.bt).size ≤ 1048576 := by rw [bs_size]; omega
      have q5 : ((bs f.bt).size : Int) ≤ S.room - (total (S.fs.take i) : Nat) := by rw [bs_size]; omega
      have HT : Hid (S.room - (total (S.fs.take i) : Nat) - ((bs f.bt).size : Int) = S.room - (total (S.fs.take (i + 1)) : Nat)) := Lib.hid (by rw [bs_size, htk]; omega)
      clear htk htl hf hfo
      go_wp2
      go_roundg (gk - 1)
      case measure => omega
      case rel => exact ⟨i + 1, by omega, by go_num, by rw [← HT.out], rfl⟩
    · obtain rfl : i = L := by omega
      have hall : S.fs.take i = S.fs := List.take_of_length_le (by rw [HL.out]; exact Nat.le_refl _)
      rw [hall]
      clear hall
      go_wp2
      go_ret
      exact ⟨rfl, rfl⟩

theorem infoStr : (Try.prog.info? 9).map (fun i => (i.zero, i.size, i.bytes)) = some (some (.string ⟨#[]⟩), 1, 16) := by kernel_rfl

theorem strs_snoc (ns : List (List UInt8)) (n : List UInt8) : strs (ns ++ [n]) = strs ns ++ [.string (bs n)] := by simp [strs]

set_option maxHeartbeats 1000000 in
theorem reflist_any {B qb : Nat} {lv : Value} {S : St} {w : World} (h : Rf B w qb lv S) (hcs : S.fs.length < 1000000000) :
    Calls Try.prog 25 #[.pointer (some ⟨qb, 0, none⟩)] w fun e w' => ∃ v, e = .returned v ∧ w'.ownsRow w.heap.size 9 1 v (S.fs.map Fl.nm).length (strs (S.fs.map Fl.nm)) ∧ Below w.heap.size w w' := by
  obtain ⟨c0, c1, c2, c3, fz⟩ := h.cells
  clear fz
  obtain ⟨i0, hi0, hz0, hz1, hz2⟩ := info_parts infoStr
  have HI0 := Lib.hid (And.intro hi0 (And.intro hz0 (And.intro hz1 hz2)))
  clear hi0 hz0 hz1 hz2
  obtain ⟨a, cap, hv⟩ := files_form h.row
  obtain ⟨L, hL⟩ : ∃ L, L = S.fs.length := ⟨_, rfl⟩
  have hrow := h.row
  have hq := h.lt.1
  rw [hv] at hrow c1
  rw [← hL] at hrow c1 hcs
  have HL := Lib.hid hL; have HR := Lib.hid hrow
  clear hL hrow hv
  have HC1 := Lib.hid c1
  go_enter Try.func25, Try.ntmps25
  go_wp2
  go_loopg [3, 4] L (fun g s it wr => ∃ (i : Nat) (u : Value), i + g = L ∧ it = .int .i64 i ∧ u = s ∧ wr.ownsRow w.heap.size 9 1 u (((S.fs.take i).map Fl.nm).length) (strs ((S.fs.take i).map Fl.nm)) ∧ Below w.heap.size w wr)
  case atStart => exact ⟨0, _, by omega, rfl, rfl, World.ownsRow_nil _ _ _ _, Below.refl _ _⟩
  case round =>
    obtain ⟨i, u, hi, rfl, rfl, hown, hbw⟩ := hrel
    rw [← hbw.cell (p := ⟨qb, 1, none⟩) hq] at c1
    by_cases hlt : i < L
    · obtain ⟨f, hf⟩ : ∃ f, S.fs[i]? = some f := ⟨S.fs[i]'(by have := HL.out; omega), List.getElem?_eq_getElem _⟩
      obtain ⟨g, hg, _, hgl, d0, d1, d2⟩ := files_at HR.out hf
      subst hg
      rw [← hbw.cell (p := ⟨g, _, none⟩) hgl] at d0
      have htk : (S.fs.take (i + 1)).map Fl.nm = (S.fs.take i).map Fl.nm ++ [f.nm] := by rw [List.take_add_one, hf]; simp
      have HT := Lib.hid htk
      have hml : ((S.fs.take i).map Fl.nm).length ≤ i := by rw [List.length_map]; exact List.length_take_le _ _
      have hbz := hbw.size
      clear htk hf d1 d2
      have HO := Lib.hid hown; have HBW := Lib.hid hbw; clear hown
      go_wp2_with (first
        | (at_builtin; refine wpList_append_own_at _ rfl _ _ 40 rfl w.heap.size 9 i0 _ 1 16 Try.underlying40 HI0.out.1 HI0.out.2.1 HI0.out.2.2.1 HI0.out.2.2.2 rfl (by decide) _ _ _ rfl (HO.out.alloc _) ⟨wr.heap.size, 0, none⟩ 1 1 [.string (bs f.nm)] rfl rfl (cell_one_new _ _ _) (by simp [Value.oneCell']) (by unfold maxLen; omega) (by omega) (by simp; omega) ?_; intro v' w1 hown' hgrow hnil hloc)
        | fail)
      go_roundg (gk - 1)
      case measure => omega
      case rel =>
        refine ⟨i + 1, _, by omega, by go_num, rfl, ?_, Below.grown (HBW.out.alloc hbz _) hgrow (by simp; omega) (fun j hj => (HO.out.lt _ hj).1)⟩
        rw [HT.out, strs_snoc, List.length_append]
        exact hown'
    · obtain rfl : i = L := by omega
      have hall : S.fs.take i = S.fs := List.take_of_length_le (by rw [HL.out]; exact Nat.le_refl _)
      rw [hall] at hown
      clear hall
      obtain ⟨ua, uc, hu⟩ := owns_form hown
      obtain ⟨M, hM⟩ : ∃ M, M = (S.fs.map Fl.nm).length := ⟨_, rfl⟩
      rw [← hM] at hown hu
      subst hu
      have HM := Lib.hid hM; have HO := Lib.hid hown; clear hM hown
      go_wp2
      go_ret
      rw [← HM.out]
      exact ⟨.slice ua M uc, rfl, HO.out, hbw⟩
end Go.Proofs.Ytmpipfhlicfagaa
