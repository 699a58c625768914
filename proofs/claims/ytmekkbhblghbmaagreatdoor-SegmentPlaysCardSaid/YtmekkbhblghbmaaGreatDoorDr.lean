/- Merged out of 9 texts, in build order: Dref, Dfiles, Dwith, Drefcalls, Drefcalls2, Drefcalls3, Drefcalls4, Drefcrash, Dboth. -/
import Derived.Test.YtmekkbhblghbmaaGreatDoorDops
import Derived.Deep.DeepCutAuto
import Derived.Deep.RegionHeld3
import Derived.Maps.AppendAt
import Derived.Deep.Upon
import Derived.Test.YtmekkbhblghbmaaGreatDoorDb

/- The document's disk in memory: its own block, a row of files; small calls. -/
namespace Go.Proofs.YtmekkbhblghbmaaGreatDoor.D
set_option maxRecDepth 100000
open Go.RowKit
set_option linter.unusedVariables false

/-- The cells of a row of files. -/
def flat : List Fl → List Value
  | [] => []
  | f :: r => .string (bs f.nm) :: .string (bs f.bt) :: .int .i64 f.sure :: flat r

theorem flat_len : ∀ l : List Fl, (flat l).length = l.length * 3
  | [] => rfl
  | f :: r => by simp only [flat, List.length_cons, flat_len r]; omega
theorem flat_append : ∀ a b : List Fl, flat (a ++ b) = flat a ++ flat b
  | [], _ => rfl
  | f :: r, b => by simp [flat, flat_append r b]
theorem flat_at : ∀ (l : List Fl) (i : Nat) (f : Fl), l[i]? = some f → (flat l)[i * 3]? = some (.string (bs f.nm)) ∧ (flat l)[i * 3 + 1]? = some (.string (bs f.bt)) ∧ (flat l)[i * 3 + 2]? = some (.int .i64 f.sure)
  | [], _, _, h => by simp at h
  | g :: r, 0, f, h => by simp at h; subst h; simp [flat]
  | g :: r, i + 1, f, h => by
    have := flat_at r i f (by simpa using h)
    simp only [flat]
    rw [show (i + 1) * 3 = i * 3 + 1 + 1 + 1 by omega]
    simpa using this
theorem flat_one : ∀ l : List Fl, ∀ v ∈ flat l, v.oneCell' = true
  | [], v, h => by simp [flat] at h
  | f :: r, v, h => by
    simp only [flat, List.mem_cons] at h
    rcases h with rfl | rfl | rfl | h
    · rfl
    · rfl
    · rfl
    · exact flat_one r v h
theorem flat_take : ∀ (l : List Fl) (i : Nat), flat (l.take i) = (flat l).take (i * 3)
  | [], i => by simp [flat]
  | f :: r, 0 => by simp [flat]
  | f :: r, i + 1 => by simp [flat, flat_take r i, show (i + 1) * 3 = i * 3 + 1 + 1 + 1 by omega]
theorem flat_drop : ∀ (l : List Fl) (i : Nat), flat (l.drop i) = (flat l).drop (i * 3)
  | [], i => by simp [flat]
  | f :: r, 0 => by simp [flat]
  | f :: r, i + 1 => by simp [flat, flat_drop r i, show (i + 1) * 3 = i * 3 + 1 + 1 + 1 by omega]

/-- A row of files that lies among the blocks from B on. -/
def Files (w : World) (B : Nat) (v : Value) (l : List Fl) : Prop := w.ownsRow B 113 3 v l.length (flat l)

/-- The document's disk. -/
structure Rf (B : Nat) (w : World) (qb : Nat) (lv : Value) (S : St) : Prop where
  blk : w.heap[qb]? = some (.cells #[.int .i64 S.room, lv, .int .i64 S.lit, .bool S.down] 85 (0, 0))
  row : Files w B lv S.fs
  base : B ≤ qb ∧ lv.ownBlock ≠ some qb ∧ B ≤ w.heap.size
  good : Good S

theorem files_cases {w : World} {B : Nat} {v : Value} {l : List Fl} (h : Files w B v l) : (v = .slice none 0 0 ∧ l = []) ∨ ∃ g cap cur, v = .slice (some ⟨g, 0, none⟩) l.length cap ∧ B ≤ g ∧ g < w.heap.size ∧ w.heap[g]? = some (.cells cur 113 (0, 0)) ∧ l.length ≤ cap ∧ cap ≤ maxLen ∧
    cur.size = cap * 3 ∧ (∀ j, j < l.length * 3 → w.cell? ⟨g, j, none⟩ = (flat l)[j]?) ∧ (∀ j, w.frozen? ⟨g, j, none⟩ = false) := by
  obtain ⟨hl, h⟩ := h
  rcases h with ⟨rfl, h0⟩ | ⟨g, cap, cur, rfl, hB, hg, hn, hc, hs, ht⟩
  · exact Or.inl ⟨rfl, List.eq_nil_of_length_eq_zero h0⟩
  · refine Or.inr ⟨g, cap, cur, rfl, hB, (Array.getElem?_eq_some_iff.1 hg).1, hg, hn, hc, hs, fun j hj => ?_, fun j => by simp [World.frozen?, hg]⟩
    rw [cell_of_row w g j cur _ (0, 0) hg, ← ht, List.getElem?_take, if_pos hj]; simp

theorem files_form {w : World} {B : Nat} {v : Value} {l : List Fl} (h : Files w B v l) : ∃ a cap, v = .slice a l.length cap := by
  rcases files_cases h with ⟨rfl, rfl⟩ | ⟨g, cap, _, hv, _⟩
  · exact ⟨none, 0, rfl⟩
  · exact ⟨_, cap, hv⟩

/-- The three cells of file i. -/
theorem files_at {w : World} {B : Nat} {a : Option Addr} {cap n : Nat} {l : List Fl} (h : Files w B (.slice a n cap) l) {i : Nat} {f : Fl} (hf : l[i]? = some f) :
    ∃ g, a = some ⟨g, 0, none⟩ ∧ B ≤ g ∧ g < w.heap.size ∧ w.cell? ⟨g, i * 3, none⟩ = some (.string (bs f.nm)) ∧ w.cell? ⟨g, i * 3 + 1, none⟩ = some (.string (bs f.bt)) ∧ w.cell? ⟨g, i * 3 + 2, none⟩ = some (.int .i64 f.sure) := by
  have hi : i < l.length := (List.getElem?_eq_some_iff.1 hf).1
  rcases files_cases h with ⟨_, rfl⟩ | ⟨g, cap', cur, hv, hB, hg, _, _, _, _, hc, _⟩
  · simp at hi
  · injection hv with e1 e2 e3
    obtain ⟨h0, h1, h2⟩ := flat_at l i f hf
    exact ⟨g, e1, hB, hg, by rw [hc _ (by omega)]; exact h0, by rw [hc _ (by omega)]; exact h1, by rw [hc _ (by omega)]; exact h2⟩

section
variable {B qb : Nat} {lv : Value} {S : St} {w w' : World}

theorem Rf.lt (h : Rf B w qb lv S) : qb < w.heap.size ∧ ∀ g, lv.ownBlock = some g → B ≤ g ∧ g < w.heap.size := ⟨(Array.getElem?_eq_some_iff.1 h.blk).1, h.row.lt⟩

theorem Rf.kept {G : Nat → Prop} (h : Rf B w qb lv S) (t : Turn G w w') (hG : ∀ k, k < w.heap.size → (k = qb ∨ lv.ownBlock = some k) → ¬ G k) : Rf B w' qb lv S := by
  obtain ⟨l1, l2⟩ := h.lt
  exact { h with
    blk := by rw [t.block qb l1 (hG qb l1 (Or.inl rfl))]; exact h.blk
    row := owns_kept h.row (fun g hg => t.block g (l2 g hg).2 (hG g (l2 g hg).2 (Or.inr hg)))
    base := ⟨h.base.1, h.base.2.1, Nat.le_trans h.base.2.2 t.size⟩ }

theorem Rf.below (h : Rf B w qb lv S) (t : Below w.heap.size w w') : Rf B w' qb lv S := h.kept (Turn.of_below (fun _ => False) t (Nat.le_refl _)) (fun _ _ _ f => f)

/-- Its own block alone has turned, and maybe its files lie elsewhere now. -/
theorem Rf.head (h : Rf B w qb lv S) (t : Turn (fun k => k = qb) w w') {S' : St} {lv' : Value}
    (hp : w'.heap[qb]? = some (.cells #[.int .i64 S'.room, lv', .int .i64 S'.lit, .bool S'.down] 85 (0, 0)))
    (hrow : Files w' B lv' S'.fs) (hne : lv'.ownBlock ≠ some qb) (hg : Good S') : Rf B w' qb lv' S' :=
  ⟨hp, hrow, ⟨h.base.1, hne, Nat.le_trans h.base.2.2 t.size⟩, hg⟩

theorem Rf.cells (h : Rf B w qb lv S) : w.cell? ⟨qb, 0, none⟩ = some (.int .i64 S.room) ∧ w.cell? ⟨qb, 1, none⟩ = some lv ∧ w.cell? ⟨qb, 2, none⟩ = some (.int .i64 S.lit) ∧ w.cell? ⟨qb, 3, none⟩ = some (.bool S.down) ∧ (∀ j, w.frozen? ⟨qb, j, none⟩ = false) := by
  have hc : ∀ j, w.cell? ⟨qb, j, none⟩ = (#[Value.int .i64 S.room, lv, .int .i64 S.lit, .bool S.down])[j]? := fun j => cell_of_row w qb j _ _ (0, 0) h.blk
  exact ⟨by rw [hc]; rfl, by rw [hc]; rfl, by rw [hc]; rfl, by rw [hc]; rfl, fun j => by simp [World.frozen?, h.blk]⟩

theorem Rf.setAt (h : Rf B w qb lv S) (j : Nat) (v : Value) : (w.setCell ⟨qb, j, none⟩ v).heap[qb]? = some (.cells ((#[Value.int .i64 S.room, lv, .int .i64 S.lit, .bool S.down]).setIfInBounds j v) 85 (0, 0)) :=
  heap_setCell_same w qb j _ _ v h.blk
end

/-! ### right, burn -/
theorem refright_is {n : List UInt8} {b : Bool} (hb : rightName n = b) (w : World) (hn : n.length ≤ maxLen) :
    Calls Tryz.prog 80 #[.string (bs n)] w fun e w' => e = .returned (.bool b) ∧ w = w' := by
  subst hb
  have hn' := hn
  unfold maxLen at hn'
  by_cases h1 : 1 ≤ n.length
  · have hr : rightName n = decide (n.length ≤ 20) := by simp [rightName, h1]
    rw [hr]
    have hsz : (bs n).size = n.length := bs_size n
    have HS := Lib.hid hsz; clear hsz hr hn
    have hb1 : (bs n).size ≤ 9223372036854775807 := by rw [HS.out]; omega
    have hb2 : 1 ≤ (bs n).size := by rw [HS.out]; omega
    by_cases h2 : n.length ≤ 20
    · have hb3 : (bs n).size ≤ 20 := by rw [HS.out]; omega
      have hd : decide (n.length ≤ 20) = true := by simpa using h2
      rw [hd]; clear hd
      go_enter Tryz.func80, Tryz.ntmps80
      go_wp2
      go_ret
      exact ⟨by simp; omega, rfl⟩
    · have hb3 : 20 < (bs n).size := by rw [HS.out]; omega
      have hd : decide (n.length ≤ 20) = false := by simpa using h2
      rw [hd]; clear hd
      go_enter Tryz.func80, Tryz.ntmps80
      go_wp2
      go_ret
      exact ⟨by simp; omega, rfl⟩
  · have hr : rightName n = false := by simp [rightName]; omega
    rw [hr]
    have hsz : (bs n).size = n.length := bs_size n
    have HS := Lib.hid hsz; clear hsz hr hn
    have hb2 : (bs n).size < 1 := by rw [HS.out]; omega
    go_enter Tryz.func80, Tryz.ntmps80
    go_wp2
    go_ret
    exact ⟨rfl, rfl⟩

theorem good_burnt {S : St} (h : Good S) : Good (burnt S) := by
  obtain ⟨g1, g2, g3, g4, g5, g6⟩ := h
  refine ⟨by rw [fs_burnt]; exact g1, by rw [fs_burnt]; exact g2, by rw [fs_burnt]; exact g3, by rw [fs_burnt, room_burnt]; exact g4, by rw [room_burnt]; exact g5, ?_⟩
  unfold burnt
  split
  · rename_i hb
    dsimp only
    have : S.lit ≠ 0 := by simp [burns] at hb; exact hb.2
    split <;> omega
  · exact g6

set_option maxHeartbeats 1000000 in
theorem refburn_is {B qb : Nat} {lv : Value} {S : St} {w : World} (h : Rf B w qb lv S) {b : Bool} (hbb : burns S = b) :
    Calls Tryz.prog 75 #[.pointer (some ⟨qb, 0, none⟩)] w fun e w' => e = .returned (.bool b) ∧ Rf B w' qb lv (burnt S) ∧ Turn (fun k => k = qb) w w' := by
  subst hbb
  obtain ⟨c0, c1, c2, c3, fz⟩ := h.cells
  have f2 := fz 2
  have f3 := fz 3
  clear fz
  have hgb := good_burnt h.good
  have hlit := h.good.lit
  have HSet3 := Lib.hid (h.setAt 3 (.bool true))
  have HSet2 := Lib.hid (h.setAt 2 (.int .i64 (S.lit - 1)))
  have hrow3 : Files (w.setCell ⟨qb, 3, none⟩ (.bool true)) B lv S.fs := owns_kept h.row (fun g hg => Below.heap_setCell _ _ _ _ (fun e => h.base.2.1 (by rw [hg, e])))
  have hrow2 : Files (w.setCell ⟨qb, 2, none⟩ (.int .i64 (S.lit - 1))) B lv S.fs := owns_kept h.row (fun g hg => Below.heap_setCell _ _ _ _ (fun e => h.base.2.1 (by rw [hg, e])))
  by_cases hd : S.down = true
  · have hb : burns S = false := by simp [burns, hd]
    have hbt : burnt S = { S with down := true } := by simp [burnt, hb]
    rw [hbt] at hgb
    have HB := Lib.hid hb; have HT := Lib.hid hbt; clear hb hbt
    rw [hd] at c3
    have HD := Lib.hid hd; clear hd
    go_enter Tryz.func75, Tryz.ntmps75
    go_wp2
    go_ret
    refine ⟨ret_bool HB.out.symm, ?_, turn_head w qb _ _⟩
    rw [HT.out]
    exact h.head (turn_head w qb 3 _) HSet3.out hrow3 h.base.2.1 hgb
  · have hd' : S.down = false := by simpa using hd
    clear hd
    rw [hd'] at c3
    by_cases hu0 : S.lit = 0
    · have hb : burns S = false := by simp [burns, hu0]
      have hbt : burnt S = { S with down := true } := by simp [burnt, hb]
      rw [hbt] at hgb
      rw [hu0] at c2
      have HB := Lib.hid hb; have HT := Lib.hid hbt; clear hb hbt
      have HD := Lib.hid hd'; clear hd'
      have HU := Lib.hid hu0; clear hu0
      go_enter Tryz.func75, Tryz.ntmps75
      go_wp2
      go_ret
      refine ⟨ret_bool HB.out.symm, ?_, turn_head w qb _ _⟩
      rw [HT.out]
      exact h.head (turn_head w qb 3 _) HSet3.out hrow3 h.base.2.1 hgb
    · have hne : (S.lit == 0) = false := by simpa using hu0
      have hb : burns S = true := by simp [burns, hd', hu0]
      by_cases hpos : 0 < S.lit
      · have hbt : burnt S = { S with lit := S.lit - 1 } := by simp [burnt, hb, hpos]
        rw [hbt] at hgb
        have HB := Lib.hid hb; have HT := Lib.hid hbt; clear hb hbt
        have HD := Lib.hid hd'; clear hd'
        have HU := Lib.hid hu0; clear hu0
        go_enter Tryz.func75, Tryz.ntmps75
        go_wp2
        go_ret
        refine ⟨ret_bool HB.out.symm, ?_, turn_head w qb _ _⟩
        rw [HT.out]
        exact h.head (turn_head w qb 2 _) HSet2.out hrow2 h.base.2.1 hgb
      · have hneg : S.lit < 0 := by omega
        have hbt : burnt S = S := by simp [burnt, hb, hpos]
        have HB := Lib.hid hb; have HT := Lib.hid hbt; clear hb hbt
        have HD := Lib.hid hd'; clear hd'
        have HU := Lib.hid hu0; clear hu0
        go_enter Tryz.func75, Tryz.ntmps75
        go_wp2
        go_ret
        refine ⟨ret_bool HB.out.symm, ?_, Turn.refl _ w⟩
        rw [HT.out]
        exact h

/-! ### at, Left, List -/
theorem refat_no {B qb : Nat} {lv : Value} {S : St} {w : World} {n : List UInt8} (h : Rf B w qb lv S) (hf : find S.fs n = none) (hcs : S.fs.length < 1000000000) :
    Calls Tryz.prog 74 #[.pointer (some ⟨qb, 0, none⟩), .string (bs n)] w fun e w' => e = .returned (.int .i64 (-1)) ∧ w = w' := by
  obtain ⟨c0, c1, c2, c3, fz⟩ := h.cells
  clear fz
  obtain ⟨a, cap, hv⟩ := files_form h.row
  obtain ⟨L, hL⟩ : ∃ L, L = S.fs.length := ⟨_, rfl⟩
  have hrow := h.row
  rw [hv] at hrow c1
  rw [← hL] at hrow c1 hcs
  have HL := Lib.hid hL; have HR := Lib.hid hrow; have HF := Lib.hid (find_none hf)
  clear hL hrow hf hv
  go_enter Tryz.func74, Tryz.ntmps74
  go_wp2
  go_loopg [5] L (fun g it wr => ∃ i : Nat, i + g = L ∧ it = .int .i64 i ∧ w = wr)
  case atStart => exact ⟨0, by omega, rfl, rfl⟩
  case round =>
    obtain ⟨i, hi, rfl, rfl⟩ := hrel
    by_cases hlt : i < L
    · obtain ⟨f, hf⟩ : ∃ f, S.fs[i]? = some f := ⟨S.fs[i]'(by have := HL.out; omega), List.getElem?_eq_getElem _⟩
      obtain ⟨g, hg, _, _, d0, d1, d2⟩ := files_at HR.out hf
      subst hg
      have hne := HF.out f (List.mem_of_getElem? hf)
      have hneq : ((bs f.nm).toList == (bs n).toList) = false := by rw [bs_toList, bs_toList]; simpa using hne
      have HF2 := Lib.hid hf; clear hf hne
      go_wp2
      go_roundg (gk - 1)
      case measure => omega
      case rel => exact ⟨i + 1, by omega, by go_num, rfl⟩
    · obtain rfl : i = L := by omega
      go_wp2
      go_ret
      exact ⟨rfl, rfl⟩

theorem refat_yes {B qb : Nat} {lv : Value} {S : St} {w : World} {n : List UInt8} {f : Fl} {i : Nat} (h : Rf B w qb lv S) (hi : S.fs[i]? = some f) (hf : f.nm = n) (hcs : S.fs.length < 1000000000) :
    Calls Tryz.prog 74 #[.pointer (some ⟨qb, 0, none⟩), .string (bs n)] w fun e w' => e = .returned (.int .i64 i) ∧ w = w' := by
  obtain ⟨c0, c1, c2, c3, fz⟩ := h.cells
  clear fz
  obtain ⟨a, cap, hv⟩ := files_form h.row
  obtain ⟨L, hL⟩ : ∃ L, L = S.fs.length := ⟨_, rfl⟩
  have hrow := h.row
  have hup := h.good.up
  rw [hv] at hrow c1
  rw [← hL] at hrow c1 hcs
  have hil : i < L := by rw [hL]; exact (List.getElem?_eq_some_iff.1 hi).1
  have hbef : ∀ j g, j < i → S.fs[j]? = some g → g.nm ≠ n := fun j g hj hg e => by
    have h1 : f ∈ S.fs := List.mem_of_getElem? hi
    have h2 : g ∈ S.fs := List.mem_of_getElem? hg
    have e2 := up_inj hup h2 h1 (e.trans hf.symm)
    subst e2
    have hp : S.fs.Pairwise (fun a b => lt a.nm b.nm = true) := hup
    have hjl : j < S.fs.length := (List.getElem?_eq_some_iff.1 hg).1
    have hil' : i < S.fs.length := (List.getElem?_eq_some_iff.1 hi).1
    have hlt := List.pairwise_iff_getElem.1 hp j i hjl hil' hj
    rw [(List.getElem?_eq_some_iff.1 hg).2, (List.getElem?_eq_some_iff.1 hi).2, lt_irrefl] at hlt
    cases hlt
  have HL := Lib.hid hL; have HR := Lib.hid hrow; have HB := Lib.hid hbef; have HI := Lib.hid hi; have HF := Lib.hid hf
  clear hL hrow hbef hi hv hf hup
  go_enter Tryz.func74, Tryz.ntmps74
  go_wp2
  go_loopg [5] i (fun g it wr => ∃ j : Nat, j + g = i ∧ it = .int .i64 j ∧ w = wr)
  case atStart => exact ⟨0, by omega, rfl, rfl⟩
  case round =>
    obtain ⟨j, hj, rfl, rfl⟩ := hrel
    have hjL : j < L := by omega
    obtain ⟨x, hx⟩ : ∃ x, S.fs[j]? = some x := ⟨S.fs[j]'(by have := HL.out; omega), List.getElem?_eq_getElem _⟩
    obtain ⟨g, hg, _, _, d0, d1, d2⟩ := files_at HR.out hx
    subst hg
    by_cases hlt : j < i
    · have hne := HB.out j x hlt hx
      have hneq : ((bs x.nm).toList == (bs n).toList) = false := by rw [bs_toList, bs_toList]; simpa using hne
      have HX := Lib.hid hx; clear hx hne
      go_wp2
      go_roundg (gk - 1)
      case measure => omega
      case rel => exact ⟨j + 1, by omega, by go_num, rfl⟩
    · obtain rfl : j = i := by omega
      have hxf : x = f := by rw [HI.out] at hx; exact (Option.some.inj hx).symm
      have heq : ((bs x.nm).toList == (bs n).toList) = true := by rw [bs_toList, bs_toList, hxf, HF.out]; simp
      clear hx hxf
      go_wp2
      go_ret
      exact ⟨rfl, rfl⟩

theorem refleft_any {B qb : Nat} {lv : Value} {S : St} {w : World} (h : Rf B w qb lv S) (hcs : S.fs.length < 1000000000) :
    Calls Tryz.prog 45 #[.pointer (some ⟨qb, 0, none⟩)] w fun e w' => e = .returned (.int .i64 (left S)) ∧ w = w' := by
  obtain ⟨c0, c1, c2, c3, fz⟩ := h.cells
  clear fz
  obtain ⟨a, cap, hv⟩ := files_form h.row
  obtain ⟨L, hL⟩ : ∃ L, L = S.fs.length := ⟨_, rfl⟩
  have hrow := h.row
  have hfit := h.good.fits
  have hroom := h.good.room
  rw [hv] at hrow c1
  rw [← hL] at hrow c1 hcs
  have HL := Lib.hid hL; have HR := Lib.hid hrow; have HF := Lib.hid hfit
  clear hL hrow hv
  go_enter Tryz.func45, Tryz.ntmps45
  go_wp2
  go_loopg [3, 4] L (fun g s it wr => ∃ i : Nat, i + g = L ∧ it = .int .i64 i ∧ s = .int .i64 (S.room - (total (S.fs.take i) : Nat)) ∧ w = wr)
  case atStart => exact ⟨0, by omega, rfl, by simp [total], rfl⟩
  case round =>
    obtain ⟨i, hi, rfl, rfl, rfl⟩ := hrel
    have hroom' := hroom
    by_cases hlt : i < L
    · obtain ⟨f, hf⟩ : ∃ f, S.fs[i]? = some f := ⟨S.fs[i]'(by have := HL.out; omega), List.getElem?_eq_getElem _⟩
      obtain ⟨g, hg, _, _, d0, d1, d2⟩ := files_at HR.out hf
      subst hg
      have htk : total (S.fs.take (i + 1)) = total (S.fs.take i) + f.bt.length := by
        rw [List.take_add_one, hf, total_append]; simp [total]
      have htl : total (S.fs.take (i + 1)) ≤ total S.fs := by
        have := total_append (S.fs.take (i + 1)) (S.fs.drop (i + 1))
        rw [List.take_append_drop] at this
        omega
      have hfo := HF.out
      have q1 : 0 ≤ S.room - (total (S.fs.take i) : Nat) ∧ S.room - (total (S.fs.take i) : Nat) ≤ 1048576 := by omega
      obtain ⟨q2, q3⟩ := q1
      have q4 : (bs f.bt).size ≤ 1048576 := by rw [bs_size]; omega
      have q5 : ((bs f.bt).size : Int) ≤ S.room - (total (S.fs.take i) : Nat) := by rw [bs_size]; omega
      have HT : Hid (S.room - (total (S.fs.take i) : Nat) - ((bs f.bt).size : Int) = S.room - (total (S.fs.take (i + 1)) : Nat)) := Lib.hid (by rw [bs_size, htk]; omega)
      clear htk htl hf hfo
      go_wp2
      go_roundg (gk - 1)
      case measure => omega
      case rel => exact ⟨i + 1, by omega, by go_num, by rw [← HT.out], rfl⟩
    · obtain rfl : i = L := by omega
      have hall : S.fs.take i = S.fs := List.take_of_length_le (by rw [HL.out]; exact Nat.le_refl _)
      rw [hall]
      clear hall
      go_wp2
      go_ret
      exact ⟨rfl, rfl⟩

theorem infoStr : (Tryz.prog.info? 9).map (fun i => (i.zero, i.size, i.bytes)) = some (some (.string ⟨#[]⟩), 1, 16) := by kernel_rfl

theorem strs_snoc (ns : List (List UInt8)) (n : List UInt8) : strs (ns ++ [n]) = strs ns ++ [.string (bs n)] := by simp [strs]

set_option maxHeartbeats 1000000 in
theorem reflist_any {B qb : Nat} {lv : Value} {S : St} {w : World} (h : Rf B w qb lv S) (hcs : S.fs.length < 1000000000) :
    Calls Tryz.prog 40 #[.pointer (some ⟨qb, 0, none⟩)] w fun e w' => ∃ v, e = .returned v ∧ w'.ownsRow w.heap.size 9 1 v (S.fs.map Fl.nm).length (strs (S.fs.map Fl.nm)) ∧ Below w.heap.size w w' := by
  obtain ⟨c0, c1, c2, c3, fz⟩ := h.cells
  clear fz
  obtain ⟨i0, hi0, hz0, hz1, hz2⟩ := info_parts infoStr
  have HI0 := Lib.hid (And.intro hi0 (And.intro hz0 (And.intro hz1 hz2)))
  clear hi0 hz0 hz1 hz2
  obtain ⟨a, cap, hv⟩ := files_form h.row
  obtain ⟨L, hL⟩ : ∃ L, L = S.fs.length := ⟨_, rfl⟩
  have hrow := h.row
  have hq := h.lt.1
  rw [hv] at hrow c1
  rw [← hL] at hrow c1 hcs
  have HL := Lib.hid hL; have HR := Lib.hid hrow
  clear hL hrow hv
  have HC1 := Lib.hid c1
  go_enter Tryz.func40, Tryz.ntmps40
  go_wp2
  go_loopg [3, 4] L (fun g s it wr => ∃ (i : Nat) (u : Value), i + g = L ∧ it = .int .i64 i ∧ u = s ∧ wr.ownsRow w.heap.size 9 1 u (((S.fs.take i).map Fl.nm).length) (strs ((S.fs.take i).map Fl.nm)) ∧ Below w.heap.size w wr)
  case atStart => exact ⟨0, _, by omega, rfl, rfl, World.ownsRow_nil _ _ _ _, Below.refl _ _⟩
  case round =>
    obtain ⟨i, u, hi, rfl, rfl, hown, hbw⟩ := hrel
    rw [← hbw.cell (p := ⟨qb, 1, none⟩) hq] at c1
    by_cases hlt : i < L
    · obtain ⟨f, hf⟩ : ∃ f, S.fs[i]? = some f := ⟨S.fs[i]'(by have := HL.out; omega), List.getElem?_eq_getElem _⟩
      obtain ⟨g, hg, _, hgl, d0, d1, d2⟩ := files_at HR.out hf
      subst hg
      rw [← hbw.cell (p := ⟨g, _, none⟩) hgl] at d0
      have htk : (S.fs.take (i + 1)).map Fl.nm = (S.fs.take i).map Fl.nm ++ [f.nm] := by rw [List.take_add_one, hf]; simp
      have HT := Lib.hid htk
      have hml : ((S.fs.take i).map Fl.nm).length ≤ i := by rw [List.length_map]; exact List.length_take_le _ _
      have hbz := hbw.size
      clear htk hf d1 d2
      have HO := Lib.hid hown; have HBW := Lib.hid hbw; clear hown
      go_wp2_with (first
        | (at_builtin; refine wpList_append_own_at _ rfl _ _ 66 rfl w.heap.size 9 i0 _ 1 16 Tryz.underlying66 HI0.out.1 HI0.out.2.1 HI0.out.2.2.1 HI0.out.2.2.2 rfl (by decide) _ _ _ rfl (HO.out.alloc _) ⟨wr.heap.size, 0, none⟩ 1 1 [.string (bs f.nm)] rfl rfl (cell_one_new _ _ _) (by simp [Value.oneCell']) (by unfold maxLen; omega) (by omega) (by simp; omega) ?_; intro v' w1 hown' hgrow hnil hloc)
        | fail)
      go_roundg (gk - 1)
      case measure => omega
      case rel =>
        refine ⟨i + 1, _, by omega, by go_num, rfl, ?_, Below.grown (HBW.out.alloc hbz _) hgrow (by simp; omega) (fun j hj => (HO.out.lt _ hj).1)⟩
        rw [HT.out, strs_snoc, List.length_append]
        exact hown'
    · obtain rfl : i = L := by omega
      have hall : S.fs.take i = S.fs := List.take_of_length_le (by rw [HL.out]; exact Nat.le_refl _)
      rw [hall] at hown
      clear hall
      obtain ⟨ua, uc, hu⟩ := owns_form hown
      obtain ⟨M, hM⟩ : ∃ M, M = (S.fs.map Fl.nm).length := ⟨_, rfl⟩
      rw [← hM] at hown hu
      subst hu
      have HM := Lib.hid hM; have HO := Lib.hid hown; clear hM hown
      go_wp2
      go_ret
      rw [← HM.out]
      exact ⟨.slice ua M uc, rfl, HO.out, hbw⟩
end Go.Proofs.YtmekkbhblghbmaaGreatDoor.D

/- Rows of files: appended to; all but one; one more in its place. -/
namespace Go.Proofs.YtmekkbhblghbmaaGreatDoor.D
set_option maxRecDepth 100000
open Go.RowKit
set_option linter.unusedVariables false

theorem infoFile : (Tryz.prog.info? 113).map (fun i => (i.zero, i.size, i.bytes)) = some (some (.agg #[.string ⟨#[]⟩, .string ⟨#[]⟩, .int .i64 0]), 3, 40) := by kernel_rfl

/-- Files are appended to a row of files that the program owns. -/
theorem run_append_files {B : Nat} {v : Value} {l : List Fl} {w : World} (h : Files w B v l) (x : Value) (b : List Fl) (hs : Src Tryz.prog 3 83 x b.length (flat b) w) (hb : l.length + b.length ≤ 1099511627776) (hB : B ≤ w.heap.size) (ty : TypeId) :
    ∃ v' w', (Builtin.append_ #[83, 83] ty #[v, x]).run Tryz.prog w = .ok v' w' ∧ Files w' B v' (l ++ b) ∧ w.grownBy w' v.ownBlock ∧ (v'.ownBlock = v.ownBlock ∨ v'.ownBlock = some w.heap.size) := by
  obtain ⟨i0, hi, hz0, hz1, hz2⟩ := info_parts infoFile
  have hsrc : Src Tryz.prog i0.size 83 x b.length (flat b) w := by rw [hz1]; exact hs
  have hlen : (l ++ b).length = l.length + b.length := List.length_append
  have hz : ∀ k, (Builtin.zeroCells (Value.agg #[.string ⟨#[]⟩, .string ⟨#[]⟩, .int .i64 0]).cells k).size = k * 3 := fun k => by rw [size_zeroCells]; simp [Value.cells]
  have grow : ∀ (base : Option Addr) (cap : Nat), cap < l.length + b.length → (Builtin.firstCells i0.size l.length (.slice base l.length cap)).run Tryz.prog w.drew = .ok (flat l).toArray w.drew →
      v = .slice base l.length cap → ∃ v' w', (Builtin.append_ #[83, 83] ty #[v, x]).run Tryz.prog w = .ok v' w' ∧ Files w' B v' (l ++ b) ∧ w.grownBy w' v.ownBlock ∧ (v'.ownBlock = v.ownBlock ∨ v'.ownBlock = some w.heap.size) := by
    intro base cap hcap hold hv
    have hr := run_append_grow_src (P := Tryz.prog) w 83 83 ty 113 i0 _ Tryz.underlying83 hi hz0 base l.length cap (flat l) hold x b.length (flat b) hsrc hcap (by omega)
      (growslice_fits (by omega) (by rw [hz2]; omega))
    have hge := grownCap_ge w (l.length + b.length) cap 113
    have hgm := grownCap_le_maxLen w (l.length + b.length) cap 113 (by unfold maxLen; omega)
    refine ⟨_, _, by rw [hv]; exact hr, ?_, (grown_drewN 1 w _).trans (World.grownBy_alloc _ _ _), Or.inr rfl⟩
    refine ⟨by rw [flat_len], Or.inr ⟨w.heap.size, _, _, by rw [hlen], hB, heap_alloc_new _ _, by rw [hlen]; exact hge, hgm, ?_, ?_⟩⟩
    · simp only [Array.size_append, List.size_toArray, List.length_append, flat_len, hz]
      omega
    · rw [hlen, flat_append]
      have : (flat l ++ flat b).length = (l.length + b.length) * 3 := by rw [List.length_append, flat_len, flat_len]; omega
      rw [← this]
      simp only [Array.toList_append]
      exact List.take_left
  rcases files_cases h with ⟨rfl, rfl⟩ | ⟨g, cap, cur, rfl, hBg, hgl, hg, hcap, hcm, hsz, hcell, hfz⟩
  · by_cases hb0 : b = []
    · subst hb0
      have hr := run_append_nothing w 83 83 ty 113 i0 Tryz.underlying83 hi none 0 0 (Nat.le_refl _) x hsrc
      exact ⟨_, _, hr, World.ownsRow_nil _ _ _ _, ⟨rfl, rfl, rfl, Nat.le_refl _, fun _ _ _ => rfl⟩, Or.inl rfl⟩
    · have hbp : 0 < b.length := List.length_pos_iff.2 hb0
      exact grow none 0 (by simpa using hbp) (by rw [hz1]; exact run_firstCells_none w.drew 3 0 0 0) rfl
  · by_cases hroom : l.length + b.length ≤ cap
    · have hsome : ∀ j, j < cap * 3 → (w.cell? ⟨g, j, none⟩).isSome = true := fun j hj => by
        rw [cell_of_row w g j cur _ (0, 0) hg, Array.getElem?_eq_getElem (by omega)]; rfl
      have hr := run_append_room_src (P := Tryz.prog) w 83 83 ty 113 i0 Tryz.underlying83 hi g 0 l.length cap x b.length (flat b) hsrc hroom
        (fun j hj => by rw [hz1, Nat.zero_add]; rw [flat_len] at hj; exact hsome _ (by omega)) (fun j _ => by rw [Nat.zero_add]; exact hfz _)
      rw [hz1, Nat.zero_add] at hr
      obtain ⟨cur1, k1, k2, k3⟩ := block_setCells g 113 (flat b) (l.length * 3) w cur hg (by rw [flat_len]; omega)
      refine ⟨_, _, hr, ?_, grown_setCells g _ _ _, Or.inl rfl⟩
      refine ⟨by rw [flat_len], Or.inr ⟨g, cap, cur1, by rw [hlen], hBg, k1, by rw [hlen]; exact hroom, hcm, by omega, ?_⟩⟩
      apply List.ext_getElem?
      intro j
      rw [List.getElem?_take, hlen]
      by_cases hj : j < (l.length + b.length) * 3
      · rw [if_pos hj, flat_append, Array.getElem?_toList, k3 j, flat_len]
        by_cases hj2 : j < l.length * 3
        · have := hcell j hj2
          rw [cell_of_row w g j cur _ (0, 0) hg] at this
          rw [if_neg (by omega), List.getElem?_append_left (by rw [flat_len]; omega), this]
        · rw [if_pos (by omega), List.getElem?_append_right (by rw [flat_len]; omega), flat_len]
      · rw [if_neg hj, List.getElem?_eq_none (by rw [flat_len, hlen]; omega)]
    · refine grow _ cap (by omega) ?_ rfl
      rw [hz1]
      refine run_firstCells_some w.drew 3 l.length ⟨g, 0, none⟩ l.length cap (flat l) (by rw [flat_len]) (fun j u hu => ?_)
      have hj : j < l.length * 3 := by rw [← flat_len l]; exact (List.getElem?_eq_some_iff.1 hu).1
      rw [Addr.add_lit, Nat.zero_add]
      show w.cell? _ = _
      rw [hcell j hj, hu]

/-- A source: one file that lies in a block of its own. -/
theorem src_one (f : Fl) (w : World) (b : Nat) (hb : w.heap[b]? = some (.cells #[.string (bs f.nm), .string (bs f.bt), .int .i64 f.sure] 113 (0, 0))) :
    Src Tryz.prog 3 83 (.slice (some ⟨b, 0, none⟩) 1 1) [f].length (flat [f]) w :=
  Src.ofSlice w Tryz.underlying83 ⟨b, 0, none⟩ 1 1 (flat [f]) rfl (fun j u hu => by
    rw [Addr.add_lit, Nat.zero_add, cell_of_row w b j _ _ (0, 0) hb]
    simpa [flat] using hu) (flat_one _)

/-- .. or a piece of another row. -/
theorem src_piece {w : World} {B : Nat} {v : Value} {l : List Fl} (h : Files w B v l) (i : Nat) (hi : i ≤ l.length) :
    ∃ a cap, v = .slice a l.length cap ∧ l.length ≤ cap ∧
      (∀ W, (Instr.slice 83 v none (some (.int .i64 (i : Int))) none).run Tryz.prog W = .ok (.slice a i cap) W) ∧
      (∃ A c, (∀ W, (Instr.slice 83 v (some (.int .i64 (i : Int))) none none).run Tryz.prog W = .ok (.slice A (l.length - i) c) W) ∧
        (∀ W, (∀ g, v.ownBlock = some g → W.heap[g]? = w.heap[g]?) → Src Tryz.prog 3 83 (.slice A (l.length - i) c) (l.drop i).length (flat (l.drop i)) W)) ∧
      (∀ W, (∀ g, v.ownBlock = some g → W.heap[g]? = w.heap[g]?) → Src Tryz.prog 3 83 (.slice a i cap) (l.take i).length (flat (l.take i)) W) := by
  have hsz : ∀ W : World, (Go.sizeOf (Tryz.prog.elem 83)).run Tryz.prog W = .ok 3 W := fun W => by kernel_rfl
  rcases files_cases h with ⟨rfl, rfl⟩ | ⟨g, cap, cur, rfl, hBg, hgl, hg, hcap, hcm, hcs, hcell, hfz⟩
  · have hi0 : i = 0 := by simpa using hi
    subst hi0
    refine ⟨none, 0, rfl, Nat.le_refl _, fun W => ?_, ⟨none, 0, fun W => ?_, fun W _ => Src.ofNil W Tryz.underlying83 0⟩, fun W _ => Src.ofNil W Tryz.underlying83 0⟩
    · rw [run_slice_h (P := Tryz.prog) (t := 83) (ht := by kernel_rfl) (kh := .i64) (h := ((0 : Nat) : Int)) (h0 := by omega) (h2 := by omega), hsz]
      simp [Result.andThen, sliced]
    · rw [run_slice_l (P := Tryz.prog) (t := 83) (ht := by kernel_rfl) (kl := .i64) (l := ((0 : Nat) : Int)) (h0 := by omega) (h1 := by simp), hsz]
      simp [Result.andThen, sliced]
  · refine ⟨some ⟨g, 0, none⟩, cap, rfl, hcap, fun W => ?_, ⟨(if cap = i then some ⟨g, 0, none⟩ else some ⟨g, i * 3, none⟩), cap - i, fun W => ?_, fun W hW => ?_⟩, fun W hW => ?_⟩
    · rw [run_slice_h (P := Tryz.prog) (t := 83) (ht := by kernel_rfl) (kh := .i64) (h := (i : Int)) (h0 := by omega) (h2 := by omega), hsz]
      simp only [Result.andThen, sliced, Int.toNat_natCast, Nat.sub_zero, Nat.zero_mul]
      by_cases h0 : cap = 0
      · simp [h0]
      · rw [if_neg h0]; simp [Addr.add]
    · rw [run_slice_l (P := Tryz.prog) (t := 83) (ht := by kernel_rfl) (kl := .i64) (l := (i : Int)) (h0 := by omega) (h1 := by omega), hsz]
      simp only [Result.andThen, sliced, Int.toNat_natCast]
      by_cases h0 : cap = i
      · rw [if_pos h0, if_pos h0]
      · rw [if_neg h0, if_neg h0]
        simp only [Option.map_some, Addr.add_lit, Nat.zero_add]
    · have hdl : (l.drop i).length = l.length - i := List.length_drop
      have key : ∀ A : Addr, (∀ t, t < (l.length - i) * 3 → A.add t = ⟨g, i * 3 + t, none⟩) → Src Tryz.prog 3 83 (.slice (some A) (l.length - i) (cap - i)) (l.drop i).length (flat (l.drop i)) W := fun A hA => by
        rw [hdl]
        refine Src.ofSlice W Tryz.underlying83 A _ _ _ (by rw [flat_len, hdl]) (fun j u hu => ?_) (flat_one _)
        have hj : j < (l.length - i) * 3 := by rw [← hdl, ← flat_len]; exact (List.getElem?_eq_some_iff.1 hu).1
        rw [hA j hj]
        have e : W.cell? ⟨g, i * 3 + j, none⟩ = w.cell? ⟨g, i * 3 + j, none⟩ := World.cell?_of_block (w := w) (hW g rfl)
        rw [e, hcell _ (by omega)]
        rw [flat_drop, List.getElem?_drop] at hu
        exact hu
      by_cases h0 : cap = i
      · rw [if_pos h0]
        exact key _ (fun t ht => by omega)
      · rw [if_neg h0]
        exact key _ (fun t _ => by rw [Addr.add_lit])
    · have htl : (l.take i).length = i := by rw [List.length_take]; omega
      have hx : ∀ n, n = i → Src Tryz.prog 3 83 (.slice (some ⟨g, 0, none⟩) i cap) n (flat (l.take i)) W := fun n hn => by
        subst hn
        refine Src.ofSlice W Tryz.underlying83 ⟨g, 0, none⟩ _ _ _ (by rw [flat_len, htl]) (fun j u hu => ?_) (flat_one _)
        have hj : j < n * 3 := by
          have := (List.getElem?_eq_some_iff.1 hu).1
          rw [flat_len, htl] at this; exact this
        rw [Addr.add_lit, Nat.zero_add]
        have e : W.cell? ⟨g, j, none⟩ = w.cell? ⟨g, j, none⟩ := World.cell?_of_block (w := w) (hW g rfl)
        rw [e, hcell _ (by omega)]
        rw [flat_take, List.getElem?_take, if_pos hj] at hu
        exact hu
      exact hx _ htl
end Go.Proofs.YtmekkbhblghbmaaGreatDoor.D

/- The document's disk: all files but one; one more in its place. -/
namespace Go.Proofs.YtmekkbhblghbmaaGreatDoor.D
set_option maxRecDepth 100000
open Go.RowKit
set_option linter.unusedVariables false

theorem wo_snoc (l : List Fl) (f : Fl) (n : List UInt8) : wo Fl.nm (l ++ [f]) n = if f.nm = n then wo Fl.nm l n else wo Fl.nm l n ++ [f] := by
  unfold wo
  rw [List.filter_append]
  by_cases h : f.nm = n <;> simp [h]

/-- What is behind a call that makes a row of files. -/
def FilesPost (w : World) (l : List Fl) (e : Ending) (w' : World) : Prop := ∃ v, e = .returned v ∧ Files w' w.heap.size v l ∧ Below w.heap.size w w'

set_option maxHeartbeats 1000000 in
theorem without_any {B qb : Nat} {lv : Value} {S : St} {w : World} (h : Rf B w qb lv S) (n : List UInt8) (hcs : S.fs.length < 1000000000) :
    Calls Tryz.prog 77 #[.pointer (some ⟨qb, 0, none⟩), .string (bs n)] w (FilesPost w (wo Fl.nm S.fs n)) := by
  obtain ⟨c0, c1, c2, c3, fz⟩ := h.cells
  clear fz
  obtain ⟨a, cap, hv⟩ := files_form h.row
  obtain ⟨L, hL⟩ : ∃ L, L = S.fs.length := ⟨_, rfl⟩
  have hrow := h.row
  have hq := h.lt.1
  rw [hv] at hrow c1
  rw [← hL] at hrow c1 hcs
  have HL := Lib.hid hL; have HR := Lib.hid hrow
  clear hL hrow hv
  go_enter Tryz.func77, Tryz.ntmps77
  go_wp2
  go_loopg [5, 6] L (fun g s it wr => ∃ (i : Nat) (u : Value), i + g = L ∧ it = .int .i64 i ∧ u = s ∧ Files wr w.heap.size u (wo Fl.nm (S.fs.take i) n) ∧ Below w.heap.size w wr)
  case atStart => exact ⟨0, _, by omega, rfl, rfl, World.ownsRow_nil _ _ _ _, Below.refl _ _⟩
  case round =>
    obtain ⟨i, u, hi, rfl, rfl, hown, hbw⟩ := hrel
    rw [← hbw.cell (p := ⟨qb, 1, none⟩) hq] at c1
    by_cases hlt : i < L
    · obtain ⟨f, hf⟩ : ∃ f, S.fs[i]? = some f := ⟨S.fs[i]'(by have := HL.out; omega), List.getElem?_eq_getElem _⟩
      obtain ⟨g, hg, _, hgl, d0, d1, d2⟩ := files_at HR.out hf
      subst hg
      rw [← hbw.cell (p := ⟨g, _, none⟩) hgl] at d0 d1 d2
      have htk : wo Fl.nm (S.fs.take (i + 1)) n = if f.nm = n then wo Fl.nm (S.fs.take i) n else wo Fl.nm (S.fs.take i) n ++ [f] := by rw [List.take_add_one, hf]; exact wo_snoc _ _ _
      have hml : (wo Fl.nm (S.fs.take i) n).length ≤ i := Nat.le_trans (length_wo _ _) (List.length_take_le _ _)
      have hbz := hbw.size
      have HBW := Lib.hid hbw
      clear hf
      by_cases hn : f.nm = n
      · have heq : ((bs f.nm).toList == (bs n).toList) = true := by rw [bs_toList, bs_toList, hn]; simp
        rw [if_pos hn] at htk
        have HT := Lib.hid htk; have HO := Lib.hid hown; clear htk hown hn
        go_wp2
        go_roundg (gk - 1)
        case measure => omega
        case rel => exact ⟨i + 1, _, by omega, by go_num, rfl, by rw [HT.out]; exact HO.out, hbw⟩
      · have heq : ((bs f.nm).toList == (bs n).toList) = false := by rw [bs_toList, bs_toList]; simpa using hn
        rw [if_neg hn] at htk
        have HT := Lib.hid htk; clear htk hn
        obtain ⟨v', w1, hrun, hown', hgrow, hloc⟩ : ∃ v' w1, (∀ ty, (Builtin.append_ #[83, 83] ty #[u, .slice (some ⟨wr.heap.size, 0, none⟩) 1 1]).run Tryz.prog (wr.alloc (.cells #[.string (bs f.nm), .string (bs f.bt), .int .i64 f.sure] 113)) = .ok v' w1) ∧
            Files w1 w.heap.size v' (wo Fl.nm (S.fs.take i) n ++ [f]) ∧ (wr.alloc (.cells #[.string (bs f.nm), .string (bs f.bt), .int .i64 f.sure] 113)).grownBy w1 u.ownBlock ∧ True := by
          obtain ⟨v', w1, q1, q2, q3, q4⟩ := run_append_files (hown.alloc (.cells #[.string (bs f.nm), .string (bs f.bt), .int .i64 f.sure] 113)) (.slice (some ⟨wr.heap.size, 0, none⟩) 1 1) [f] (src_one f _ wr.heap.size (heap_alloc_new wr _)) (by simp; omega) (by simp; omega) 0
          exact ⟨v', w1, fun _ => q1, q2, q3, trivial⟩
        have HO := Lib.hid hown; have HRUN := Lib.hid hrun; have HO' := Lib.hid hown'; have HG := Lib.hid hgrow
        clear hown hrun hown' hgrow
        go_wp2_with (first
          | (at_builtin; refine wpList_append_run _ rfl _ _ _ _ rfl _ _ rfl rfl _ _ HRUN.out ?_)
          | fail)
        go_roundg (gk - 1)
        case measure => omega
        case rel =>
          refine ⟨i + 1, _, by omega, by go_num, rfl, by rw [HT.out]; exact HO'.out, Below.grown (HBW.out.alloc hbz _) HG.out (by simp; omega) (fun j hj => (HO.out.lt _ hj).1)⟩
    · obtain rfl : i = L := by omega
      have hall : S.fs.take i = S.fs := List.take_of_length_le (by rw [HL.out]; exact Nat.le_refl _)
      rw [hall] at hown
      clear hall
      obtain ⟨ua, uc, hu⟩ := files_form hown
      obtain ⟨M, hM⟩ : ∃ M, M = (wo Fl.nm S.fs n).length := ⟨_, rfl⟩
      rw [← hM] at hu
      subst hu
      have HO := Lib.hid hown; clear hown hM
      go_wp2
      go_ret
      exact ⟨.slice ua M uc, rfl, HO.out, hbw⟩

/-- An append of files as one step of a region that draws its order. -/
theorem step_append_files {ops : Array Oper} {o : Oper} {a : Act} {w : World} {K : Act → World → Prop} {Q : Exit → Act → World → Prop} {E : Prop} (hgd : o.guard = none) (s x : Operand)
    (ho : o.op = .call { callee := .builtin .append, args := #[s, x], argTypes := #[83, 83] }) (B : Nat) (v : Value) (l : List Fl) (hs : a.eval s = v) (hown : Files w B v l) (xv : Value) (b : List Fl) (hx : a.eval x = xv)
    (hsrc : Src Tryz.prog 3 83 xv b.length (flat b) w) (hb : l.length + b.length ≤ 1099511627776) (hB : B ≤ w.heap.size)
    (h : ∀ a' n' c' w', Files w' B (.slice a' n' c') (l ++ b) → Below B w w' → w.grownBy w' v.ownBlock → K (a.put o.dst (.slice a' n' c')) w') :
    if Region.wanted o (yielded ops a.tmps) = true then Oper.wp Tryz.prog o a w K Q else E := by
  have hw : Region.wanted o (yielded ops a.tmps) = true := by simp [Region.wanted, hgd]
  rw [if_pos hw]
  obtain ⟨v', w', q1, q2, q3, q4⟩ := run_append_files hown xv b hsrc hb hB o.type
  obtain ⟨a', c', rfl⟩ := files_form q2
  unfold Oper.wp execOp
  simp only [ho, resolve, invoke, builtin, Sem.run_bind, Sem.run_pure, Result.andThen_ok, List.map_toArray, List.map_cons, List.map_nil, hs, hx, q1]
  exact h a' _ c' w' q2 ((Below.refl B w).grown q3 hB (fun k hk => (hown.lt k hk).1)) q3

theorem Files.alloc {w : World} {B : Nat} {v : Value} {l : List Fl} (h : Files w B v l) (o : Obj) : Files (w.alloc o) B v l := World.ownsRow.alloc h o
theorem files_base {w : World} {B B' : Nat} {v : Value} {l : List Fl} (h : Files w B v l) (hB : B' ≤ B) : Files w B' v l := by
  obtain ⟨h1, h2⟩ := h
  refine ⟨h1, h2.imp id ?_⟩
  rintro ⟨g, cap, cur, hv, hb, r⟩
  exact ⟨g, cap, cur, hv, Nat.le_trans hB hb, r⟩
theorem Files.drew {w : World} {B : Nat} {v : Value} {l : List Fl} (h : Files w B v l) : Files w.drew B v l := h
theorem files_empty {w : World} {B b : Nat} (hB : B ≤ b) (hb : w.heap[b]? = some (.cells #[] 113 (0, 0))) : Files w B (.slice (some ⟨b, 0, none⟩) 0 0) [] :=
  ⟨rfl, Or.inr ⟨b, 0, #[], rfl, hB, hb, Nat.le_refl _, by unfold maxLen; omega, rfl, rfl⟩⟩
theorem heap_two_new (w : World) (o1 o2 : Obj) : ((w.alloc o1).alloc o2).heap[w.heap.size + 1]? = some o2 := by
  have := heap_alloc_new (w.alloc o1) o2
  simpa using this
theorem heap_two_old (w : World) (o1 o2 : Obj) : ((w.alloc o1).alloc o2).heap[w.heap.size]? = some o1 := by
  rw [Below.heap_alloc _ _ _ (by simp)]
  exact heap_alloc_new w o1

/-- What was there when the call had laid its file is as it was. -/
def Old (w1 W : World) : Prop := Below w1.heap.size w1 W
theorem Old.refl (w1 : World) : Old w1 w1 := Below.refl _ _
theorem Old.alloc {w1 W : World} (h : Old w1 W) (o : Obj) : Old w1 (W.alloc o) := Below.alloc h h.size o
theorem Old.drew {w1 W : World} (h : Old w1 W) : Old w1 W.drew := Below.drew h
theorem Old.drewN {w1 W : World} (h : Old w1 W) (q : Nat) : Old w1 (W.drewN q) := ⟨h.os, h.tape, h.output, h.size, h.block⟩
theorem Old.below {w1 W W' : World} (h : Old w1 W) (k : Below w1.heap.size W W') : Old w1 W' := Below.trans h k

/-- How many files stand ahead. -/
theorem pos_step {l : List Fl} {n : List UInt8} {i : Nat} {f : Fl} (hi : l[i]? = some f) (hu : Up Fl.nm l) : (i < pos Fl.nm l n ↔ lt f.nm n = true ∧ i ≤ pos Fl.nm l n) := by
  constructor
  · intro h
    exact ⟨pos_before (k := Fl.nm) h hi, by omega⟩
  · rintro ⟨h1, h2⟩
    rcases Nat.lt_or_ge i (pos Fl.nm l n) with h | h
    · exact h
    · have := pos_behind (k := Fl.nm) hu h hi
      rw [h1] at this; cases this

set_option maxHeartbeats 2000000 in
theorem with_any {B : Nat} {lv : Value} {l : List Fl} {w : World} (h : Files w B lv l) (f : Fl) (hu : Up Fl.nm l) (hcs : l.length < 1000000000) :
    Calls Tryz.prog 76 #[lv, .agg #[.string (bs f.nm), .string (bs f.bt), .int .i64 f.sure]] w (FilesPost w (ins Fl.nm l f)) := by
  have hat := ins_at (k := Fl.nm) l f
  have hple := pos_le (k := Fl.nm) l f.nm
  obtain ⟨p, hp⟩ : ∃ p, p = pos Fl.nm l f.nm := ⟨_, rfl⟩
  rw [← hp] at hat hple
  rw [hat]
  obtain ⟨la, lc, hlv, hlc, hcut, ⟨A, c, htail, hsrc2⟩, hsrc1⟩ := src_piece h p hple
  obtain ⟨L, hL⟩ : ∃ L, L = l.length := ⟨_, rfl⟩
  rw [← hL] at hlv hlc htail hsrc2 hple hcs
  have hrow := h
  have hlt := h.lt
  subst hlv
  have HL := Lib.hid hL; have HR := Lib.hid hrow; have HP := Lib.hid hp; have HU := Lib.hid hu; have HS1 := Lib.hid hsrc1; have HS2 := Lib.hid hsrc2; have HLT := Lib.hid hlt
  clear hL hrow hp hu hsrc1 hsrc2 hlt hat h
  go_enter Tryz.func76, Tryz.ntmps76
  go_wp2
  go_loopg [5] p (fun g it wr => ∃ (i : Nat) (q : Nat), i + g = p ∧ it = .int .i64 i ∧ wr = (w.alloc (.cells #[.string (bs f.nm), .string (bs f.bt), .int .i64 f.sure] 113)).drewN q)
  case atStart => exact ⟨0, 0, by omega, rfl, rfl⟩
  case round =>
    obtain ⟨i, q, hi, rfl, rfl⟩ := hrel
    by_cases hiL : i < L
    · obtain ⟨x, hx⟩ : ∃ x, l[i]? = some x := ⟨l[i]'(by have := HL.out; omega), List.getElem?_eq_getElem _⟩
      obtain ⟨g, hg, _, hgl, d0, d1, d2⟩ := files_at HR.out hx
      subst hg
      have e0 : (w.alloc (.cells #[.string (bs f.nm), .string (bs f.bt), .int .i64 f.sure] 113)).cell? ⟨g, i * 3, none⟩ = some (.string (bs x.nm)) := by
        rw [World.cell?_of_block (w := w) (Below.heap_alloc _ _ _ hgl)]; exact d0
      by_cases hip : i < p
      · have hlt : lt x.nm f.nm = true := pos_before (k := Fl.nm) (by rw [← HP.out]; exact hip) hx
        have hbl : Op.bytesLess (bs x.nm).toList (bs f.nm).toList = true := by rw [bs_toList, bs_toList]; exact hlt
        have HX := Lib.hid hx; clear hx hlt d0 d1 d2
        go_wp2
        go_quiet (fail)
        go_wp2
        go_roundg (gk - 1)
        case measure => omega
        case rel => exact ⟨i + 1, _, by omega, by go_num, rfl⟩
      · obtain rfl : i = p := by omega
        have hlt : lt x.nm f.nm = false := pos_behind (k := Fl.nm) HU.out (by rw [← HP.out]; exact Nat.le_refl _) hx
        have hbl : Op.bytesLess (bs x.nm).toList (bs f.nm).toList = false := by rw [bs_toList, bs_toList]; exact hlt
        have HX := Lib.hid hx; clear hx hlt d0 d1 d2
        go_wp2
        go_quiet (fail)
        go_wp2
        generalize hW2 : World.drewN _ _ = W2
        have K0 : Old (w.alloc (.cells #[.string (bs f.nm), .string (bs f.bt), .int .i64 f.sure] 113)) W2 := by rw [← hW2]; exact ((Old.refl _).drewN _).drewN _
        clear hW2 e0
        generalize hW1 : w.alloc _ = w1 at K0
        have bw : w1.heap[w.heap.size]? = some (.cells #[.string (bs f.nm), .string (bs f.bt), .int .i64 f.sure] 113 (0, 0)) := by rw [← hW1]; exact heap_alloc_new w _
        have hsz1 : w1.heap.size = w.heap.size + 1 := by rw [← hW1]; simp
        have hA0 : ∀ W, Old w1 W → W.cell? ⟨w.heap.size, 0, none⟩ = some (.string (bs f.nm)) := fun W hW => by rw [Below.cell (p := ⟨w.heap.size, 0, none⟩) hW (by show w.heap.size < _; omega), cell_of_row w1 _ 0 _ _ (0, 0) bw]; rfl
        have hA1 : ∀ W, Old w1 W → W.cell? ⟨w.heap.size, 1, none⟩ = some (.string (bs f.bt)) := fun W hW => by rw [Below.cell (p := ⟨w.heap.size, 1, none⟩) hW (by show w.heap.size < _; omega), cell_of_row w1 _ 1 _ _ (0, 0) bw]; rfl
        have hA2 : ∀ W, Old w1 W → W.cell? ⟨w.heap.size, 2, none⟩ = some (.int .i64 f.sure) := fun W hW => by rw [Below.cell (p := ⟨w.heap.size, 2, none⟩) hW (by show w.heap.size < _; omega), cell_of_row w1 _ 2 _ _ (0, 0) bw]; rfl
        have HB1 : Hid (Below w.heap.size w w1) := Lib.hid (by rw [← hW1]; exact (Below.refl _ _).alloc (Nat.le_refl _) _)
        have HOW : Hid (∀ W, Old w1 W → ∀ k, (Value.slice (some ⟨g, 0, none⟩) L lc).ownBlock = some k → W.heap[k]? = w.heap[k]?) := Lib.hid (fun W hW k hk => by
          have hkl := (HLT.out k hk).2
          rw [hW.block k (by omega), ← hW1, Below.heap_alloc _ _ _ hkl])
        clear hW1 bw
        have hlw : ∀ W, Old w1 W → ∀ k, (Value.slice (some ⟨g, 0, none⟩) L lc).ownBlock = some k → W.heap[k]? = w.heap[k]? := HOW.out
        have HLW := Lib.hid hlw
        have hz2 : w1.heap.size ≤ W2.heap.size := K0.size
        have hl9 : l.length ≤ 1000000000 := by have := HL.out; omega
        clear hlw HOW
        go_region_held3 (fun W => Old w1 W) (first | assumption | exact K0 | exact K0.drew | exact Old.drew ‹_› | exact Old.alloc ‹_› _ | exact (K0.alloc _).drew | exact ((K0.alloc _).alloc _).drew)
          (first
            | (refine step_append_files rfl (.tmp 22) (.tmp 25) (by rfl) w1.heap.size _ [] (by rfl) (files_empty (by omega) (by first | exact heap_alloc_new _ _ | exact heap_two_new _ _ _ | exact heap_two_old _ _ _)) _ (l.take i) (by rfl) (HS1.out _ (HLW.out _ (by assumption))) (by rw [List.length_take, List.length_nil]; omega) (by simp; omega) ?_
               intro a3 n3 c3 w3 hf3 hb3 hg3
               have hO3 : Old w1 w3 := Old.below (by assumption) hb3)
            | (refine step_append_files rfl (.tmp 26) (.tmp 28) (by rfl) w1.heap.size _ ([] ++ l.take i) (by rfl) (by first | exact hf3 | exact hf3.drew | exact hf3.alloc _ | exact (hf3.alloc _).drew) _ [f] (by rfl)
                (src_one f _ _ (by first | exact heap_alloc_new _ _ | exact (hg3.block _ (by first | (simp; done) | (simp; omega)) (by first | (simp [Value.ownBlock]; done) | (simp [Value.ownBlock]; omega))).trans (heap_two_new _ _ _) | exact (hg3.block _ (by first | (simp; done) | (simp; omega)) (by first | (simp [Value.ownBlock]; done) | (simp [Value.ownBlock]; omega))).trans (heap_two_old _ _ _))) (by simp; omega) (by have := hO3.size; simp; omega) ?_
               intro a4 n4 c4 w4 hf4 hb4 hg4
               have hO4 : Old w1 w4 := Old.below (by assumption) hb4)
            | (refine step_append_files rfl (.tmp 29) (.tmp 32) (by rfl) w1.heap.size _ ([] ++ l.take i ++ [f]) (by rfl) (by first | exact hf4 | exact hf4.drew) _ (l.drop i) (by rfl) (HS2.out _ (HLW.out _ (by assumption))) (by simp; omega) (by have := hO4.size; simp; omega) ?_
               intro a5 n5 c5 w5 hf5 hb5 hg5
               have hO5 : Old w1 w5 := Old.below (by assumption) hb5))
        all_goals
          go_wp2
          go_ret
          exact ⟨.slice a5 n5 c5, rfl, files_base hf5 (by omega), HB1.out.trans (hO5.mono (by omega))⟩
    · obtain rfl : i = p := by omega
      obtain rfl : i = L := by omega
      rw [Nat.sub_self] at htail
      have hs2' := HS2.out
      rw [Nat.sub_self] at hs2'
      have HS2' := Lib.hid hs2'
      clear hs2' HS2
      go_wp2
      go_quiet (fail)
      go_wp2
      generalize hW2 : World.drewN _ _ = W2
      have K0 : Old (w.alloc (.cells #[.string (bs f.nm), .string (bs f.bt), .int .i64 f.sure] 113)) W2 := by rw [← hW2]; exact ((Old.refl _).drewN _).drewN _
      clear hW2
      generalize hW1 : w.alloc _ = w1 at K0
      have bw : w1.heap[w.heap.size]? = some (.cells #[.string (bs f.nm), .string (bs f.bt), .int .i64 f.sure] 113 (0, 0)) := by rw [← hW1]; exact heap_alloc_new w _
      have hsz1 : w1.heap.size = w.heap.size + 1 := by rw [← hW1]; simp
      have hA0 : ∀ W, Old w1 W → W.cell? ⟨w.heap.size, 0, none⟩ = some (.string (bs f.nm)) := fun W hW => by rw [Below.cell (p := ⟨w.heap.size, 0, none⟩) hW (by show w.heap.size < _; omega), cell_of_row w1 _ 0 _ _ (0, 0) bw]; rfl
      have hA1 : ∀ W, Old w1 W → W.cell? ⟨w.heap.size, 1, none⟩ = some (.string (bs f.bt)) := fun W hW => by rw [Below.cell (p := ⟨w.heap.size, 1, none⟩) hW (by show w.heap.size < _; omega), cell_of_row w1 _ 1 _ _ (0, 0) bw]; rfl
      have hA2 : ∀ W, Old w1 W → W.cell? ⟨w.heap.size, 2, none⟩ = some (.int .i64 f.sure) := fun W hW => by rw [Below.cell (p := ⟨w.heap.size, 2, none⟩) hW (by show w.heap.size < _; omega), cell_of_row w1 _ 2 _ _ (0, 0) bw]; rfl
      have HB1 : Hid (Below w.heap.size w w1) := Lib.hid (by rw [← hW1]; exact (Below.refl _ _).alloc (Nat.le_refl _) _)
      have HOW : Hid (∀ W, Old w1 W → ∀ k, (Value.slice la i lc).ownBlock = some k → W.heap[k]? = w.heap[k]?) := Lib.hid (fun W hW k hk => by
        have hkl := (HLT.out k hk).2
        rw [hW.block k (by omega), ← hW1, Below.heap_alloc _ _ _ hkl])
      clear hW1 bw
      have hlw : ∀ W, Old w1 W → ∀ k, (Value.slice la i lc).ownBlock = some k → W.heap[k]? = w.heap[k]? := HOW.out
      have HLW := Lib.hid hlw
      have hz2 : w1.heap.size ≤ W2.heap.size := K0.size
      have hl9 : l.length ≤ 1000000000 := by have := HL.out; omega
      clear hlw HOW
      go_region_held3 (fun W => Old w1 W) (first | assumption | exact K0 | exact K0.drew | exact Old.drew ‹_› | exact Old.alloc ‹_› _ | exact (K0.alloc _).drew | exact ((K0.alloc _).alloc _).drew)
        (first
          | (refine step_append_files rfl (.tmp 22) (.tmp 25) (by rfl) w1.heap.size _ [] (by rfl) (files_empty (by omega) (by first | exact heap_alloc_new _ _ | exact heap_two_new _ _ _ | exact heap_two_old _ _ _)) _ (l.take i) (by rfl) (HS1.out _ (HLW.out _ (by assumption))) (by rw [List.length_take, List.length_nil]; omega) (by simp; omega) ?_
             intro a3 n3 c3 w3 hf3 hb3 hg3
             have hO3 : Old w1 w3 := Old.below (by assumption) hb3)
          | (refine step_append_files rfl (.tmp 26) (.tmp 28) (by rfl) w1.heap.size _ ([] ++ l.take i) (by rfl) (by first | exact hf3 | exact hf3.drew | exact hf3.alloc _ | exact (hf3.alloc _).drew) _ [f] (by rfl)
              (src_one f _ _ (by first | exact heap_alloc_new _ _ | exact (hg3.block _ (by first | (simp; done) | (simp; omega)) (by first | (simp [Value.ownBlock]; done) | (simp [Value.ownBlock]; omega))).trans (heap_two_new _ _ _) | exact (hg3.block _ (by first | (simp; done) | (simp; omega)) (by first | (simp [Value.ownBlock]; done) | (simp [Value.ownBlock]; omega))).trans (heap_two_old _ _ _))) (by simp; omega) (by have := hO3.size; simp; omega) ?_
             intro a4 n4 c4 w4 hf4 hb4 hg4
             have hO4 : Old w1 w4 := Old.below (by assumption) hb4)
          | (refine step_append_files rfl (.tmp 29) (.tmp 32) (by rfl) w1.heap.size _ ([] ++ l.take i ++ [f]) (by rfl) (by first | exact hf4 | exact hf4.drew) _ (l.drop i) (by rfl) (HS2'.out _ (HLW.out _ (by assumption))) (by simp; omega) (by have := hO4.size; simp; omega) ?_
             intro a5 n5 c5 w5 hf5 hb5 hg5
             have hO5 : Old w1 w5 := Old.below (by assumption) hb5))
      all_goals
        go_wp2
        go_ret
        exact ⟨.slice a5 n5 c5, rfl, files_base hf5 (by omega), HB1.out.trans (hO5.mono (by omega))⟩
end Go.Proofs.YtmekkbhblghbmaaGreatDoor.D

/- The document's disk: its calls, one by one. -/
namespace Go.Proofs.YtmekkbhblghbmaaGreatDoor.D
set_option maxRecDepth 100000
open Go.RowKit
set_option linter.unusedVariables false

/-- What is behind a call of the document's disk. -/
def RfPost (B qb : Nat) (lv : Value) (S' : St) (r : Value) (w : World) (e : Ending) (w' : World) : Prop :=
  e = .returned r ∧ ∃ lv', Rf B w' qb lv' S' ∧ Turn (fun k => k = qb) w w' ∧ ∀ g, lv'.ownBlock = some g → lv.ownBlock = some g ∨ w.heap.size ≤ g

theorem rfpost_same {B qb : Nat} {lv : Value} {S : St} {w w' : World} {r : Value} (h : Rf B w' qb lv S) (t : Turn (fun k => k = qb) w w') : RfPost B qb lv S r w (.returned r) w' := ⟨rfl, lv, h, t, fun _ h => Or.inl h⟩

/-- Its files have been laid anew. -/
theorem rfpost_laid {B qb : Nat} {lv lvA lv0 : Value} {S S' : St} {w0 w x : World} {l : List Fl} {r : Value} (h : Rf B w qb lv S) (t0 : Turn (fun k => k = qb) w0 w) (hb : Below w.heap.size w x) (hf : Files x w.heap.size lv0 l) (hl : S' = { S with fs := l }) (hg : Good S') :
    RfPost B qb lvA S' r w0 (.returned r) (x.setCell ⟨qb, 1, none⟩ lv0) := by
  subst hl
  obtain ⟨l1, l2⟩ := h.lt
  have hqx : x.heap[qb]? = some (.cells #[.int .i64 S.room, lv, .int .i64 S.lit, .bool S.down] 85 (0, 0)) := by rw [hb.block qb l1]; exact h.blk
  have hne : lv0.ownBlock ≠ some qb := fun e => by have := (hf.lt qb e).1; omega
  have t : Turn (fun k => k = qb) w (x.setCell ⟨qb, 1, none⟩ lv0) := (Turn.of_below (fun k => k = qb) hb (Nat.le_refl _)).trans (turn_head x qb 1 lv0)
  refine ⟨rfl, lv0, h.head t ?_ ?_ hne hg, t0.trans t, fun g hgg => Or.inr (Nat.le_trans t0.size (hf.lt g hgg).1)⟩
  · exact heap_setCell_same x qb 1 _ _ lv0 hqx
  · refine files_base (B := w.heap.size) ?_ h.base.2.2
    exact owns_kept hf (fun g hg => Below.heap_setCell _ _ _ _ (fun e => hne (by rw [hg, e])))

theorem good_puts {S : St} {f : Fl} (h : Good S) (hn : 1 ≤ f.nm.length ∧ f.nm.length ≤ 20) (hs : f.sure ≤ f.bt.length) (hfit : (total (puts S f).fs : Int) ≤ S.room) : Good (puts S f) := by
  obtain ⟨g1, g2, g3, g4, g5, g6⟩ := h
  have hm : ∀ x ∈ (puts S f).fs, x = f ∨ x ∈ S.fs := fun x hx => (mem_ins.1 hx).imp id (fun h => (mem_wo.1 h).1)
  refine ⟨up_ins (up_wo g1 _) (fun c hc => (mem_wo.1 hc).2), fun x hx => ?_, fun x hx => ?_, hfit, g5, g6⟩
  · rcases hm x hx with rfl | hx
    · exact hn
    · exact g2 x hx
  · rcases hm x hx with rfl | hx
    · exact hs
    · exact g3 x hx

theorem good_wo {S : St} (h : Good S) (n : List UInt8) : Good { S with fs := wo Fl.nm S.fs n } := by
  obtain ⟨g1, g2, g3, g4, g5, g6⟩ := h
  refine ⟨up_wo g1 n, fun f hf => g2 f (mem_wo.1 hf).1, fun f hf => g3 f (mem_wo.1 hf).1, ?_, g5, g6⟩
  dsimp only
  by_cases hx : ∃ f ∈ S.fs, f.nm = n
  · obtain ⟨f, hf, rfl⟩ := hx
    have := total_wo g1 hf
    omega
  · rw [wo_id (fun f hf e => hx ⟨f, hf, e⟩)]
    exact g4

/-- Where a file stands. -/
theorem find_at {l : List Fl} {n : List UInt8} {f : Fl} (h : find l n = some f) : ∃ i : Nat, l[i]? = some f ∧ f.nm = n := by
  obtain ⟨h1, h2⟩ := find_mem h
  obtain ⟨i, hi, e⟩ := List.mem_iff_getElem.1 h1
  exact ⟨i, by rw [← e]; exact List.getElem?_eq_getElem hi, h2⟩

/-- without, and with, in whatever world behind W2. -/
theorem without_old {B qb : Nat} {lv : Value} {S : St} {W2 : World} (h : Rf B W2 qb lv S) (n : List UInt8) (hcs : S.fs.length < 1000000000) : ∀ W, Old W2 W →
    Calls Tryz.prog 77 #[.pointer (some ⟨qb, 0, none⟩), .string (bs n)] W fun e w' => ∃ a c k, e = .returned (.slice a k c) ∧ Files w' W2.heap.size (.slice a k c) (wo Fl.nm S.fs n) ∧ Old W2 w' := by
  intro W hW
  refine (without_any (h.below hW) n hcs).mono ?_
  rintro e w' ⟨v, rfl, hf, hb⟩
  obtain ⟨a, c, rfl⟩ := files_form hf
  exact ⟨a, c, _, rfl, files_base hf hW.size, hW.trans (hb.mono hW.size)⟩

theorem with_old {W2 : World} {f : Fl} {l : List Fl} (hu : Up Fl.nm l) (hcs : l.length < 1000000000) : ∀ W v, Old W2 W → Files W W2.heap.size v l →
    Calls Tryz.prog 76 #[v, .agg #[.string (bs f.nm), .string (bs f.bt), .int .i64 f.sure]] W fun e w' => ∃ a c k, e = .returned (.slice a k c) ∧ Files w' W2.heap.size (.slice a k c) (ins Fl.nm l f) ∧ Old W2 w' := by
  intro W v hW hv
  refine (with_any hv f hu hcs).mono ?_
  rintro e w' ⟨v', rfl, hf, hb⟩
  obtain ⟨a, c, rfl⟩ := files_form hf
  exact ⟨a, c, _, rfl, files_base hf hW.size, hW.trans (hb.mono hW.size)⟩

theorem fs_sync_len {S : St} (h : Good S) {f : Fl} (hf : f ∈ S.fs) {g : Fl} (hg : g.nm = f.nm) (hl : g.bt.length ≤ f.bt.length) : (total (puts S g).fs : Int) ≤ S.room := by
  have h2 := total_wo h.up hf
  have h3 := h.fits
  simp only [puts, total_ins, hg]
  omega

/-! ### Sync -/
set_option maxHeartbeats 2000000 in
theorem refsync_any {B qb : Nat} {lv : Value} {S : St} {w : World} {n : List UInt8} (h : Rf B w qb lv S) (hcs : S.fs.length < 1000000000) :
    Calls Tryz.prog 29 #[.pointer (some ⟨qb, 0, none⟩), .string (bs n)] w (RfPost B qb lv (syS S n) (.int .i64 (syE S n)) w) := by
  cases hf : find S.fs n with
  | none =>
    have e1 : syS S n = S := by simp [syS, hf]
    have e2 : syE S n = 5 := by simp [syE, hf]
    rw [e1, e2]
    have hat := refat_no h hf hcs
    clear hf e1 e2
    go_enter Tryz.func29, Tryz.ntmps29
    go_wp2_with fail
    refine hat.mono ?_
    rintro e w1 ⟨rfl, rfl⟩
    go_wp2_with fail
    go_ret
    exact rfpost_same h (Turn.refl _ _)
  | some f =>
    obtain ⟨i, hi, hfn⟩ := find_at hf
    have hat := refat_yes h hi hfn hcs
    by_cases hbu : burns S = true
    · have e1 : syS S n = puts (burnt S) { f with sure := f.bt.length } := by simp [syS, hf, hbu]
      have e2 : syE S n = 0 := by simp [syE, hf, hbu]
      rw [e1, e2]
      have hfm := (find_mem hf).1
      have hS' : puts (burnt S) { f with sure := f.bt.length } = { burnt S with fs := ins Fl.nm (wo Fl.nm S.fs n) { f with sure := f.bt.length } } := by simp only [puts, fs_burnt, hfn]
      have hGo : Good (puts (burnt S) { f with sure := f.bt.length }) := good_puts (good_burnt h.good) (h.good.names f hfm) (Nat.le_refl _) (fs_sync_len (good_burnt h.good) (f := f) (by rw [fs_burnt]; exact hfm) rfl (Nat.le_refl _))
      have HB := Lib.hid hbu; have HI := Lib.hid hi; have HFN := Lib.hid hfn; have HF := Lib.hid hf; have HS' := Lib.hid hS'
      have hfl := len_le h.good hfm
      have hsz : (bs f.bt).size ≤ 1048576 := by rw [bs_size]; exact hfl
      clear e1 e2 hbu hi hfn hf hS'
      go_enter Tryz.func29, Tryz.ntmps29
      go_wp2_with fail
      refine hat.mono ?_
      rintro e w1 ⟨rfl, rfl⟩
      go_wp2_with fail
      refine (refburn_is h HB.out).mono ?_
      rintro e w1 ⟨rfl, h1, t1⟩
      obtain ⟨c0, c1, c2, c3, fz⟩ := h1.cells
      clear fz
      have hrow := h1.row
      rw [fs_burnt] at hrow
      obtain ⟨a, cap, hv⟩ := files_form hrow
      subst hv
      obtain ⟨g, hg, _, hgl, d0, d1, d2⟩ := files_at hrow HI.out
      subst hg
      have hil : i < S.fs.length := (List.getElem?_eq_some_iff.1 HI.out).1
      clear hat
      go_wp2_with fail
      rw [bs_size]
      clear d0 d1 d2
      generalize hW : World.alloc _ _ = W2
      have hB2 : Below w1.heap.size w1 W2 := by rw [← hW]; exact (Below.refl _ _).alloc (Nat.le_refl _) _
      have bw : W2.heap[w1.heap.size]? = some (.cells #[.string (bs f.nm), .string (bs f.bt), .int .i64 f.bt.length] 113 (0, 0)) := by rw [← hW]; exact heap_alloc_new w1 _
      clear hW
      have h2 : Rf B W2 qb (Value.slice (some ⟨g, 0, none⟩) S.fs.length cap) (burnt S) := h1.below hB2
      have hWO := without_old h2 n (by rw [fs_burnt]; exact hcs)
      rw [fs_burnt] at hWO
      have hWI := with_old (W2 := W2) (f := ({ f with sure := f.bt.length } : Fl)) (l := wo Fl.nm S.fs n) (up_wo h.good.up n) (by have := length_wo S.fs n; omega)
      have hsz2 : w1.heap.size < W2.heap.size := (Array.getElem?_eq_some_iff.1 bw).1
      have hA0 : ∀ W, Old W2 W → W.cell? ⟨w1.heap.size, 0, none⟩ = some (.string (bs f.nm)) := fun W hW => by rw [Below.cell (p := ⟨w1.heap.size, 0, none⟩) hW hsz2, cell_of_row W2 _ 0 _ _ (0, 0) bw]; rfl
      have hA1 : ∀ W, Old W2 W → W.cell? ⟨w1.heap.size, 1, none⟩ = some (.string (bs f.bt)) := fun W hW => by rw [Below.cell (p := ⟨w1.heap.size, 1, none⟩) hW hsz2, cell_of_row W2 _ 1 _ _ (0, 0) bw]; rfl
      have hA2 : ∀ W, Old W2 W → W.cell? ⟨w1.heap.size, 2, none⟩ = some (.int .i64 f.bt.length) := fun W hW => by rw [Below.cell (p := ⟨w1.heap.size, 2, none⟩) hW hsz2, cell_of_row W2 _ 2 _ _ (0, 0) bw]; rfl
      have hq := h2.lt.1
      obtain ⟨q0, q1, q2, q3, qz⟩ := h2.cells
      have hQ1 : ∀ W, Old W2 W → W.cell? ⟨qb, 1, none⟩ = some (Value.slice (some ⟨g, 0, none⟩) S.fs.length cap) := fun W hW => by rw [Below.cell (p := ⟨qb, 1, none⟩) hW hq]; exact q1
      have hQf : ∀ W, Old W2 W → W.frozen? ⟨qb, 1, none⟩ = false := fun W hW => by rw [Below.frozen (p := ⟨qb, 1, none⟩) hW hq]; exact qz 1
      have a0 := hA0 W2 (Old.refl _)
      have a1 := hA1 W2 (Old.refl _)
      have a2 := hA2 W2 (Old.refl _)
      have HWO := Lib.hid hWO; have HWI := Lib.hid hWI; have HA0 := Lib.hid hA0; have HA1 := Lib.hid hA1; have HA2 := Lib.hid hA2; have HQ1 := Lib.hid hQ1; have HQf := Lib.hid hQf
      clear hWO hWI hA0 hA1 hA2 hQ1 hQf q0 q2 q3 qz c0 c1 c2 c3 bw
      go_region_with (first
        | (go_at_call 77
           refine (HWO.out _ (by first | exact Old.refl _ | exact (Old.refl _).drew)).mono ?_
           rintro e w3 ⟨v3, k3, n3, rfl, hf3, hO3⟩
           have a0 := HA0.out w3 hO3
           have a1 := HA1.out w3 hO3
           have a2 := HA2.out w3 hO3)
        | (go_at_call 76
           refine (HWI.out _ _ (by first | exact hO3 | exact hO3.drew) (by first | exact hf3 | exact hf3.drew)).mono ?_
           rintro e w4 ⟨v4, k4, n4, rfl, hf4, hO4⟩
           have q1 := HQ1.out w4 hO4
           have qf := HQf.out w4 hO4))
      all_goals
        go_wp2_with fail
        go_ret
        exact rfpost_laid h2 (t1.trans (Turn.of_below _ hB2 (Nat.le_refl _))) hO4 hf4 HS'.out hGo
    · have hbu' : burns S = false := by simpa using hbu
      have e1 : syS S n = burnt S := by simp [syS, hf, hbu]
      have e2 : syE S n = 8 := by simp [syE, hf, hbu]
      rw [e1, e2]
      have HB := Lib.hid hbu'
      clear hf e1 e2 hbu hbu' hi
      go_enter Tryz.func29, Tryz.ntmps29
      go_wp2_with fail
      refine hat.mono ?_
      rintro e w1 ⟨rfl, rfl⟩
      go_wp2_with fail
      refine (refburn_is h HB.out).mono ?_
      rintro e w1 ⟨rfl, h1, t1⟩
      go_wp2_with fail
      go_ret
      exact rfpost_same h1 t1

/-! ### Remove -/
set_option maxHeartbeats 2000000 in
theorem refremove_any {B qb : Nat} {lv : Value} {S : St} {w : World} {n : List UInt8} (h : Rf B w qb lv S) (hcs : S.fs.length < 1000000000) :
    Calls Tryz.prog 69 #[.pointer (some ⟨qb, 0, none⟩), .string (bs n)] w (RfPost B qb lv (rmS S n) (.int .i64 (rmE S n)) w) := by
  cases hf : find S.fs n with
  | none =>
    have e1 : rmS S n = S := by simp [rmS, hf]
    have e2 : rmE S n = 5 := by simp [rmE, hf]
    rw [e1, e2]
    have hat := refat_no h hf hcs
    clear hf e1 e2
    go_enter Tryz.func69, Tryz.ntmps69
    go_wp2_with fail
    refine hat.mono ?_
    rintro e w1 ⟨rfl, rfl⟩
    go_wp2_with fail
    go_ret
    exact rfpost_same h (Turn.refl _ _)
  | some f =>
    obtain ⟨i, hi, hfn⟩ := find_at hf
    have hat := refat_yes h hi hfn hcs
    by_cases hbu : burns S = true
    · have e1 : rmS S n = { burnt S with fs := wo Fl.nm S.fs n } := by simp [rmS, hf, hbu]
      have e2 : rmE S n = 0 := by simp [rmE, hf, hbu]
      rw [e1, e2]
      have hGo : Good { burnt S with fs := wo Fl.nm S.fs n } := by have := good_wo (good_burnt h.good) n; rw [fs_burnt] at this; exact this
      have HB := Lib.hid hbu
      clear e1 e2 hbu hi hfn hf
      go_enter Tryz.func69, Tryz.ntmps69
      go_wp2_with fail
      refine hat.mono ?_
      rintro e w1 ⟨rfl, rfl⟩
      go_wp2_with fail
      refine (refburn_is h HB.out).mono ?_
      rintro e w1 ⟨rfl, h1, t1⟩
      go_wp2_with fail
      have hWO := without_old h1 n (by rw [fs_burnt]; exact hcs) w1 (Old.refl _)
      rw [fs_burnt] at hWO
      refine hWO.mono ?_
      rintro e w3 ⟨v3, k3, n3, rfl, hf3, hO3⟩
      have hq := h1.lt.1
      have q1 : w3.cell? ⟨qb, 1, none⟩ = some lv := by rw [Below.cell (p := ⟨qb, 1, none⟩) hO3 hq]; exact h1.cells.2.1
      have qf : w3.frozen? ⟨qb, 1, none⟩ = false := by rw [Below.frozen (p := ⟨qb, 1, none⟩) hO3 hq]; exact h1.cells.2.2.2.2 1
      clear hWO hat
      go_wp2_with fail
      go_ret
      exact rfpost_laid h1 t1 hO3 hf3 rfl hGo
    · have hbu' : burns S = false := by simpa using hbu
      have e1 : rmS S n = burnt S := by simp [rmS, hf, hbu]
      have e2 : rmE S n = 8 := by simp [rmE, hf, hbu]
      rw [e1, e2]
      have HB := Lib.hid hbu'
      clear hf e1 e2 hbu hbu' hi
      go_enter Tryz.func69, Tryz.ntmps69
      go_wp2_with fail
      refine hat.mono ?_
      rintro e w1 ⟨rfl, rfl⟩
      go_wp2_with fail
      refine (refburn_is h HB.out).mono ?_
      rintro e w1 ⟨rfl, h1, t1⟩
      go_wp2_with fail
      go_ret
      exact rfpost_same h1 t1
end Go.Proofs.YtmekkbhblghbmaaGreatDoor.D

/- The document's disk: its calls, further: Append, Rename, Cut. -/
namespace Go.Proofs.YtmekkbhblghbmaaGreatDoor.D
set_option maxRecDepth 100000
open Go.RowKit
set_option linter.unusedVariables false

theorem bs_nil_app (b : List UInt8) : (⟨#[]⟩ : ByteArray) ++ bs b = bs b := by
  exact (bs_app [] b).symm

theorem apF_some {S : St} {n b : List UInt8} {f : Fl} (h : find S.fs n = some f) : apF S n b = { f with bt := f.bt ++ b } := by unfold apF; rw [h]
theorem apF_none {S : St} {n b : List UInt8} (h : find S.fs n = none) : apF S n b = ⟨n, b, 0⟩ := by unfold apF; rw [h]

theorem apF_good {S : St} {n b : List UInt8} (h : Good S) (hr : rightName n = true) (hfit : (b.length : Int) ≤ left S) : Good (puts (burnt S) (apF S n b)) ∧ (apF S n b).nm = n := by
  have hg := good_burnt h
  have hr' := rightName_iff.1 hr
  have hle : (b.length : Int) ≤ S.room - total S.fs := hfit
  cases hf : find S.fs n with
  | none =>
    rw [apF_none hf]
    refine ⟨good_puts hg hr' (Nat.zero_le _) ?_, rfl⟩
    simp only [puts, total_ins, fs_burnt, room_burnt]
    rw [wo_id (find_none hf)]
    omega
  | some f =>
    obtain ⟨hm, hn⟩ := find_mem hf
    rw [apF_some hf]
    refine ⟨good_puts hg (by dsimp only; rw [hn]; exact hr') (by have := h.sure f hm; dsimp only; rw [List.length_append]; omega) ?_, hn⟩
    have h2 := total_wo h.up hm
    simp only [puts, total_ins, fs_burnt, room_burnt, List.length_append]
    omega

/-! ### Append -/
set_option maxHeartbeats 4000000 in
theorem refappend_any {B qb : Nat} {lv : Value} {S : St} {w : World} {n b : List UInt8} (h : Rf B w qb lv S) (hn : n.length ≤ maxLen) (hb : b.length ≤ maxLen) (hcs : S.fs.length < 1000000000) :
    Calls Tryz.prog 35 #[.pointer (some ⟨qb, 0, none⟩), .string (bs n), .string (bs b)] w (RfPost B qb lv (apS S n b) (.int .i64 (apE S n b)) w) := by
  unfold maxLen at hb
  by_cases hr : rightName n = true
  · have hV := refright_is hr w hn
    by_cases hbu : burns S = true
    · have hfits := h.good.fits
      have hroom := h.good.room
      have hL0 : 0 ≤ left S ∧ left S ≤ 1048576 := by unfold left; omega
      obtain ⟨l0, l1⟩ := hL0
      by_cases hfit : (b.length : Int) ≤ left S
      · have e1 : apS S n b = puts (burnt S) (apF S n b) := by simp [apS, hr, hbu, hfit]
        have e2 : apE S n b = 0 := by simp [apE, hr, hbu, hfit]
        rw [e1, e2]
        obtain ⟨hGo, hnm⟩ := apF_good h.good hr hfit
        have hS' : puts (burnt S) (apF S n b) = { burnt S with fs := ins Fl.nm (wo Fl.nm S.fs n) (apF S n b) } := by simp only [puts, fs_burnt, hnm]
        have HB := Lib.hid hbu; have HS' := Lib.hid hS'
        have hbs : ((bs b).size : Int) ≤ left S := by rw [bs_size]; exact hfit
        have hbs2 : (bs b).size ≤ 1048576 := by omega
        clear e1 e2 hbu hS' hr hnm
        cases hf : find S.fs n with
        | none =>
          rw [apF_none hf] at HS' hGo ⊢
          have hat := fun w1 h1 => refat_no (w := w1) (lv := lv) (S := burnt S) (qb := qb) (B := B) h1 (by rw [fs_burnt]; exact hf) (by rw [fs_burnt]; exact hcs)
          clear hf
          go_enter Tryz.func35, Tryz.ntmps35
          go_wp2_with fail
          refine hV.mono ?_
          rintro e w1 ⟨rfl, rfl⟩
          go_wp2_with fail
          refine (refburn_is h HB.out).mono ?_
          rintro e w1 ⟨rfl, h1, t1⟩
          go_wp2_with fail
          have hli := refleft_any h1 (by rw [fs_burnt]; exact hcs)
          rw [left_burnt] at hli
          refine hli.mono ?_
          rintro e w2 ⟨rfl, rfl⟩
          clear hli
          go_wp2_with fail
          refine (hat _ (h1.below ((Below.refl _ _).alloc (Nat.le_refl _) _))).mono ?_
          rintro e w2 ⟨rfl, rfl⟩
          obtain ⟨c0, c1, c2, c3, fz⟩ := h1.cells
          clear fz hat
          obtain ⟨a, cap, hv⟩ := files_form h1.row
          subst hv
          go_wp2_with fail
          rw [bs_nil_app]
          generalize hW : World.alloc _ _ = W2
          have hB2 : Below w1.heap.size w1 W2 := by rw [← hW]; exact (Below.refl _ _).alloc (Nat.le_refl _) _
          have bw : W2.heap[w1.heap.size]? = some (.cells #[.string (bs n), .string (bs b), .int .i64 (0 : Nat)] 113 (0, 0)) := by rw [← hW]; exact heap_alloc_new w1 _
          clear hW
          have h2 : Rf B W2 qb (Value.slice a (burnt S).fs.length cap) (burnt S) := h1.below hB2
          have hWO := without_old h2 n (by rw [fs_burnt]; exact hcs)
          rw [fs_burnt] at hWO
          have hWI := with_old (W2 := W2) (f := (⟨n, b, 0⟩ : Fl)) (l := wo Fl.nm S.fs n) (up_wo h.good.up n) (by have := length_wo S.fs n; omega)
          have hsz2 : w1.heap.size < W2.heap.size := (Array.getElem?_eq_some_iff.1 bw).1
          have hA0 : ∀ W, Old W2 W → W.cell? ⟨w1.heap.size, 0, none⟩ = some (.string (bs n)) := fun W hW => by rw [Below.cell (p := ⟨w1.heap.size, 0, none⟩) hW hsz2, cell_of_row W2 _ 0 _ _ (0, 0) bw]; rfl
          have hA1 : ∀ W, Old W2 W → W.cell? ⟨w1.heap.size, 1, none⟩ = some (.string (bs b)) := fun W hW => by rw [Below.cell (p := ⟨w1.heap.size, 1, none⟩) hW hsz2, cell_of_row W2 _ 1 _ _ (0, 0) bw]; rfl
          have hA2 : ∀ W, Old W2 W → W.cell? ⟨w1.heap.size, 2, none⟩ = some (.int .i64 (0 : Nat)) := fun W hW => by rw [Below.cell (p := ⟨w1.heap.size, 2, none⟩) hW hsz2, cell_of_row W2 _ 2 _ _ (0, 0) bw]; rfl
          have hq := h2.lt.1
          obtain ⟨q0, q1, q2, q3, qz⟩ := h2.cells
          have hQ1 : ∀ W, Old W2 W → W.cell? ⟨qb, 1, none⟩ = some (Value.slice a (burnt S).fs.length cap) := fun W hW => by rw [Below.cell (p := ⟨qb, 1, none⟩) hW hq]; exact q1
          have hQf : ∀ W, Old W2 W → W.frozen? ⟨qb, 1, none⟩ = false := fun W hW => by rw [Below.frozen (p := ⟨qb, 1, none⟩) hW hq]; exact qz 1
          have a0 := hA0 W2 (Old.refl _)
          have a1 := hA1 W2 (Old.refl _)
          have a2 := hA2 W2 (Old.refl _)
          have HWO := Lib.hid hWO; have HWI := Lib.hid hWI; have HA0 := Lib.hid hA0; have HA1 := Lib.hid hA1; have HA2 := Lib.hid hA2; have HQ1 := Lib.hid hQ1; have HQf := Lib.hid hQf
          clear hWO hWI hA0 hA1 hA2 hQ1 hQf q0 q2 q3 qz c0 c1 c2 c3 bw
          go_region_with (first
            | (go_at_call 77
               refine (HWO.out _ (by first | exact Old.refl _ | exact (Old.refl _).drew)).mono ?_
               rintro e w3 ⟨v3, k3, n3, rfl, hf3, hO3⟩
               have a0 := HA0.out w3 hO3
               have a1 := HA1.out w3 hO3
               have a2 := HA2.out w3 hO3)
            | (go_at_call 76
               refine (HWI.out _ _ (by first | exact hO3 | exact hO3.drew) (by first | exact hf3 | exact hf3.drew)).mono ?_
               rintro e w4 ⟨v4, k4, n4, rfl, hf4, hO4⟩
               have q1 := HQ1.out w4 hO4
               have qf := HQf.out w4 hO4))
          all_goals
            go_wp2_with fail
            go_ret
            exact rfpost_laid h2 (t1.trans (Turn.of_below _ hB2 (Nat.le_refl _))) hO4 hf4 HS'.out hGo
        | some f =>
          rw [apF_some hf] at HS' hGo ⊢
          obtain ⟨i, hi, hfn⟩ := find_at hf
          have hat := fun w1 h1 => refat_yes (w := w1) (lv := lv) (S := burnt S) (qb := qb) (B := B) (n := n) (f := f) (i := i) h1 (by rw [fs_burnt]; exact hi) hfn (by rw [fs_burnt]; exact hcs)
          have HI := Lib.hid hi
          have hfl := len_le h.good (find_mem hf).1
          have hsz : (bs f.bt).size ≤ 1048576 := by rw [bs_size]; exact hfl
          clear hf hi hfn
          go_enter Tryz.func35, Tryz.ntmps35
          go_wp2_with fail
          refine hV.mono ?_
          rintro e w1 ⟨rfl, rfl⟩
          go_wp2_with fail
          refine (refburn_is h HB.out).mono ?_
          rintro e w1 ⟨rfl, h1, t1⟩
          go_wp2_with fail
          have hli := refleft_any h1 (by rw [fs_burnt]; exact hcs)
          rw [left_burnt] at hli
          refine hli.mono ?_
          rintro e w2 ⟨rfl, rfl⟩
          clear hli
          go_wp2_with fail
          refine (hat _ (h1.below ((Below.refl _ _).alloc (Nat.le_refl _) _))).mono ?_
          rintro e w2 ⟨rfl, rfl⟩
          obtain ⟨c0, c1, c2, c3, fz⟩ := h1.cells
          clear fz hat
          have hqw := h1.lt.1
          have hrow := h1.row
          rw [fs_burnt] at hrow
          obtain ⟨a, cap, hv⟩ := files_form hrow
          subst hv
          obtain ⟨g, hg, _, hgl, d0, d1, d2⟩ := files_at hrow HI.out
          subst hg
          have hil : i < S.fs.length := (List.getElem?_eq_some_iff.1 HI.out).1
          go_wp2_with fail
          rw [← bs_app]
          clear d0 d1 d2
          generalize hW : World.alloc _ _ = W2
          have hB2 : Below w1.heap.size w1 W2 := by rw [← hW]; exact (Below.refl _ _).alloc (Nat.le_refl _) _
          have bw : W2.heap[w1.heap.size]? = some (.cells #[.string (bs f.nm), .string (bs (f.bt ++ b)), .int .i64 f.sure] 113 (0, 0)) := by rw [← hW]; exact heap_alloc_new w1 _
          clear hW
          have h2 : Rf B W2 qb (Value.slice (some ⟨g, 0, none⟩) S.fs.length cap) (burnt S) := h1.below hB2
          have hWO := without_old h2 n (by rw [fs_burnt]; exact hcs)
          rw [fs_burnt] at hWO
          have hWI := with_old (W2 := W2) (f := ({ f with bt := f.bt ++ b } : Fl)) (l := wo Fl.nm S.fs n) (up_wo h.good.up n) (by have := length_wo S.fs n; omega)
          have hsz2 : w1.heap.size < W2.heap.size := (Array.getElem?_eq_some_iff.1 bw).1
          have hA0 : ∀ W, Old W2 W → W.cell? ⟨w1.heap.size, 0, none⟩ = some (.string (bs f.nm)) := fun W hW => by rw [Below.cell (p := ⟨w1.heap.size, 0, none⟩) hW hsz2, cell_of_row W2 _ 0 _ _ (0, 0) bw]; rfl
          have hA1 : ∀ W, Old W2 W → W.cell? ⟨w1.heap.size, 1, none⟩ = some (.string (bs (f.bt ++ b))) := fun W hW => by rw [Below.cell (p := ⟨w1.heap.size, 1, none⟩) hW hsz2, cell_of_row W2 _ 1 _ _ (0, 0) bw]; rfl
          have hA2 : ∀ W, Old W2 W → W.cell? ⟨w1.heap.size, 2, none⟩ = some (.int .i64 f.sure) := fun W hW => by rw [Below.cell (p := ⟨w1.heap.size, 2, none⟩) hW hsz2, cell_of_row W2 _ 2 _ _ (0, 0) bw]; rfl
          have hq := h2.lt.1
          obtain ⟨q0, q1, q2, q3, qz⟩ := h2.cells
          have hQ1 : ∀ W, Old W2 W → W.cell? ⟨qb, 1, none⟩ = some (Value.slice (some ⟨g, 0, none⟩) S.fs.length cap) := fun W hW => by rw [Below.cell (p := ⟨qb, 1, none⟩) hW hq]; exact q1
          have hQf : ∀ W, Old W2 W → W.frozen? ⟨qb, 1, none⟩ = false := fun W hW => by rw [Below.frozen (p := ⟨qb, 1, none⟩) hW hq]; exact qz 1
          have a0 := hA0 W2 (Old.refl _)
          have a1 := hA1 W2 (Old.refl _)
          have a2 := hA2 W2 (Old.refl _)
          have HWO := Lib.hid hWO; have HWI := Lib.hid hWI; have HA0 := Lib.hid hA0; have HA1 := Lib.hid hA1; have HA2 := Lib.hid hA2; have HQ1 := Lib.hid hQ1; have HQf := Lib.hid hQf
          clear hWO hWI hA0 hA1 hA2 hQ1 hQf q0 q2 q3 qz c0 c1 c2 c3 bw
          go_region_with (first
            | (go_at_call 77
               refine (HWO.out _ (by first | exact Old.refl _ | exact (Old.refl _).drew)).mono ?_
               rintro e w3 ⟨v3, k3, n3, rfl, hf3, hO3⟩
               have a0 := HA0.out w3 hO3
               have a1 := HA1.out w3 hO3
               have a2 := HA2.out w3 hO3)
            | (go_at_call 76
               refine (HWI.out _ _ (by first | exact hO3 | exact hO3.drew) (by first | exact hf3 | exact hf3.drew)).mono ?_
               rintro e w4 ⟨v4, k4, n4, rfl, hf4, hO4⟩
               have q1 := HQ1.out w4 hO4
               have qf := HQf.out w4 hO4))
          all_goals
            go_wp2_with fail
            go_ret
            exact rfpost_laid h2 (t1.trans (Turn.of_below _ hB2 (Nat.le_refl _))) hO4 hf4 HS'.out hGo
      · have e1 : apS S n b = burnt S := by simp [apS, hr, hbu, hfit]
        have e2 : apE S n b = 6 := by simp [apE, hr, hbu, hfit]
        rw [e1, e2]
        have HB := Lib.hid hbu
        have hbs : left S < ((bs b).size : Int) := by rw [bs_size]; omega
        have hbs2 : (bs b).size ≤ 9223372036854775807 := by rw [bs_size]; omega
        clear e1 e2 hbu hr hfit
        go_enter Tryz.func35, Tryz.ntmps35
        go_wp2_with fail
        refine hV.mono ?_
        rintro e w1 ⟨rfl, rfl⟩
        go_wp2_with fail
        refine (refburn_is h HB.out).mono ?_
        rintro e w1 ⟨rfl, h1, t1⟩
        go_wp2_with fail
        have hli := refleft_any h1 (by rw [fs_burnt]; exact hcs)
        rw [left_burnt] at hli
        refine hli.mono ?_
        rintro e w2 ⟨rfl, rfl⟩
        clear hli
        go_wp2_with fail
        go_ret
        exact rfpost_same h1 t1
    · have hbu' : burns S = false := by simpa using hbu
      have e1 : apS S n b = burnt S := by simp [apS, hr, hbu]
      have e2 : apE S n b = 8 := by simp [apE, hr, hbu]
      rw [e1, e2]
      have HB := Lib.hid hbu'
      clear e1 e2 hbu hbu' hr
      go_enter Tryz.func35, Tryz.ntmps35
      go_wp2_with fail
      refine hV.mono ?_
      rintro e w1 ⟨rfl, rfl⟩
      go_wp2_with fail
      refine (refburn_is h HB.out).mono ?_
      rintro e w1 ⟨rfl, h1, t1⟩
      go_wp2_with fail
      go_ret
      exact rfpost_same h1 t1
  · have hr' : rightName n = false := by simpa using hr
    have hV := refright_is hr' w hn
    have e1 : apS S n b = S := by simp [apS, hr]
    have e2 : apE S n b = 1 := by simp [apE, hr]
    rw [e1, e2]
    clear e1 e2 hr hr'
    go_enter Tryz.func35, Tryz.ntmps35
    go_wp2_with fail
    refine hV.mono ?_
    rintro e w1 ⟨rfl, rfl⟩
    go_wp2_with fail
    go_ret
    exact rfpost_same h (Turn.refl _ _)
end Go.Proofs.YtmekkbhblghbmaaGreatDoor.D

/- The document's disk: its calls, further: Rename, Cut. -/
namespace Go.Proofs.YtmekkbhblghbmaaGreatDoor.D
set_option maxRecDepth 100000
open Go.RowKit
set_option linter.unusedVariables false

/-! ### Rename -/
/-! ### Cut -/
set_option maxHeartbeats 4000000 in
theorem refcut_any {B qb : Nat} {lv : Value} {S : St} {w : World} {n : List UInt8} {m : Int} (h : Rf B w qb lv S) (hm1 : -9223372036854775808 ≤ m) (hm2 : m ≤ 9223372036854775807) (hcs : S.fs.length < 1000000000) :
    Calls Tryz.prog 65 #[.pointer (some ⟨qb, 0, none⟩), .string (bs n), .int .i64 m] w (RfPost B qb lv (ctS S n m) (.int .i64 (ctE S n m)) w) := by
  cases hf : find S.fs n with
  | none =>
    have e1 : ctS S n m = S := by simp [ctS, hf]
    have e2 : ctE S n m = 5 := by simp [ctE, hf]
    rw [e1, e2]
    have hat := refat_no h hf hcs
    clear hf e1 e2
    go_enter Tryz.func65, Tryz.ntmps65
    go_wp2_with fail
    refine hat.mono ?_
    rintro e w1 ⟨rfl, rfl⟩
    go_wp2_with fail
    go_ret
    exact rfpost_same h (Turn.refl _ _)
  | some f =>
    obtain ⟨i, hi, hfn⟩ := find_at hf
    have hat := refat_yes h hi hfn hcs
    have hfm := (find_mem hf).1
    have hfl := len_le h.good hfm
    have hsz : (bs f.bt).size ≤ 1048576 := by rw [bs_size]; exact hfl
    have hszi : ((bs f.bt).size : Int) = f.bt.length := by rw [bs_size]
    have HSZ := Lib.hid hszi; clear hszi
    obtain ⟨c0, c1, c2, c3, fz⟩ := h.cells
    clear fz
    obtain ⟨a, cap, hv⟩ := files_form h.row
    subst hv
    obtain ⟨g, hg, _, hgl, d0, d1, d2⟩ := files_at h.row hi
    subst hg
    have hil : i < S.fs.length := (List.getElem?_eq_some_iff.1 hi).1
    by_cases hin : 0 ≤ m ∧ m ≤ f.bt.length
    · obtain ⟨k, rfl⟩ : ∃ k : Nat, m = (k : Int) := ⟨m.toNat, by omega⟩
      have hkl : k ≤ f.bt.length := by omega
      have hkz : (k : Int) ≤ ((bs f.bt).size : Int) := by rw [HSZ.out]; omega
      by_cases hbu : burns S = true
      · have e1 : ctS S n k = puts (burnt S) { f with bt := f.bt.take k, sure := min f.sure k } := by simp only [ctS, hf, hbu, hin]; simp
        have e2 : ctE S n k = 0 := by simp only [ctE, hf, hbu, hin]; simp
        rw [e1, e2]
        have hS' : puts (burnt S) { f with bt := f.bt.take k, sure := min f.sure k } = { burnt S with fs := ins Fl.nm (wo Fl.nm S.fs n) { f with bt := f.bt.take k, sure := min f.sure k } } := by simp only [puts, fs_burnt, hfn]
        have hsu := h.good.sure f hfm
        have hGo : Good (puts (burnt S) { f with bt := f.bt.take k, sure := min f.sure k }) := good_puts (good_burnt h.good) (h.good.names f hfm) (by dsimp only; rw [List.length_take]; omega) (fs_sync_len (good_burnt h.good) (f := f) (by rw [fs_burnt]; exact hfm) rfl (by dsimp only; rw [List.length_take]; omega))
        have hslice := slice_str f.bt k hkl
        have HB := Lib.hid hbu; have HI := Lib.hid hi; have HFN := Lib.hid hfn; have HF := Lib.hid hf; have HS' := Lib.hid hS'
        clear e1 e2 hbu hi hfn hf hS' hin hm1 hm2
        go_enter Tryz.func65, Tryz.ntmps65
        go_wp2_with fail
        refine hat.mono ?_
        rintro e w1 ⟨rfl, rfl⟩
        go_wp2_with fail
        refine (refburn_is h HB.out).mono ?_
        rintro e w1 ⟨rfl, h1, t1⟩
        clear c0 c1 c2 c3 d0 d1 d2
        obtain ⟨c0, c1, c2, c3, fz⟩ := h1.cells
        clear fz
        have hrow := h1.row
        rw [fs_burnt] at hrow
        obtain ⟨g', hg', _, hgl', d0, d1, d2⟩ := files_at hrow HI.out
        cases hg'
        have hqw := h1.lt.1
        clear hat
        go_wp2_with fail
        rw [show min (f.sure : Int) (k : Int) = ((min f.sure k : Nat) : Int) by omega]
        clear d0 d1 d2
        generalize hW : World.alloc _ _ = W2
        have hB2 : Below w1.heap.size w1 W2 := by rw [← hW]; exact (Below.refl _ _).alloc (Nat.le_refl _) _
        have bw : W2.heap[w1.heap.size]? = some (.cells #[.string (bs f.nm), .string (bs (f.bt.take k)), .int .i64 (min f.sure k : Nat)] 113 (0, 0)) := by rw [← hW]; exact heap_alloc_new w1 _
        clear hW
        have h2 : Rf B W2 qb (Value.slice (some ⟨g, 0, none⟩) S.fs.length cap) (burnt S) := h1.below hB2
        have hWO := without_old h2 n (by rw [fs_burnt]; exact hcs)
        rw [fs_burnt] at hWO
        have hWI := with_old (W2 := W2) (f := ({ f with bt := f.bt.take k, sure := min f.sure k } : Fl)) (l := wo Fl.nm S.fs n) (up_wo h.good.up n) (by have := length_wo S.fs n; omega)
        have hsz2 : w1.heap.size < W2.heap.size := (Array.getElem?_eq_some_iff.1 bw).1
        have hA0 : ∀ W, Old W2 W → W.cell? ⟨w1.heap.size, 0, none⟩ = some (.string (bs f.nm)) := fun W hW => by rw [Below.cell (p := ⟨w1.heap.size, 0, none⟩) hW hsz2, cell_of_row W2 _ 0 _ _ (0, 0) bw]; rfl
        have hA1 : ∀ W, Old W2 W → W.cell? ⟨w1.heap.size, 1, none⟩ = some (.string (bs (f.bt.take k))) := fun W hW => by rw [Below.cell (p := ⟨w1.heap.size, 1, none⟩) hW hsz2, cell_of_row W2 _ 1 _ _ (0, 0) bw]; rfl
        have hA2 : ∀ W, Old W2 W → W.cell? ⟨w1.heap.size, 2, none⟩ = some (.int .i64 (min f.sure k : Nat)) := fun W hW => by rw [Below.cell (p := ⟨w1.heap.size, 2, none⟩) hW hsz2, cell_of_row W2 _ 2 _ _ (0, 0) bw]; rfl
        have hq := h2.lt.1
        obtain ⟨q0, q1, q2, q3, qz⟩ := h2.cells
        have hQ1 : ∀ W, Old W2 W → W.cell? ⟨qb, 1, none⟩ = some (Value.slice (some ⟨g, 0, none⟩) S.fs.length cap) := fun W hW => by rw [Below.cell (p := ⟨qb, 1, none⟩) hW hq]; exact q1
        have hQf : ∀ W, Old W2 W → W.frozen? ⟨qb, 1, none⟩ = false := fun W hW => by rw [Below.frozen (p := ⟨qb, 1, none⟩) hW hq]; exact qz 1
        have a0 := hA0 W2 (Old.refl _)
        have a1 := hA1 W2 (Old.refl _)
        have a2 := hA2 W2 (Old.refl _)
        have HWO := Lib.hid hWO; have HWI := Lib.hid hWI; have HA0 := Lib.hid hA0; have HA1 := Lib.hid hA1; have HA2 := Lib.hid hA2; have HQ1 := Lib.hid hQ1; have HQf := Lib.hid hQf
        clear hWO hWI hA0 hA1 hA2 hQ1 hQf q0 q2 q3 qz c0 c1 c2 c3 bw
        go_region_with (first
          | (go_at_call 77
             refine (HWO.out _ (by first | exact Old.refl _ | exact (Old.refl _).drew)).mono ?_
             rintro e w3 ⟨v3, k3, n3, rfl, hf3, hO3⟩
             have a0 := HA0.out w3 hO3
             have a1 := HA1.out w3 hO3
             have a2 := HA2.out w3 hO3)
          | (go_at_call 76
             refine (HWI.out _ _ (by first | exact hO3 | exact hO3.drew) (by first | exact hf3 | exact hf3.drew)).mono ?_
             rintro e w4 ⟨v4, k4, n4, rfl, hf4, hO4⟩
             have q1 := HQ1.out w4 hO4
             have qf := HQf.out w4 hO4))
        all_goals
          go_wp2_with fail
          go_ret
          exact rfpost_laid h2 (t1.trans (Turn.of_below _ hB2 (Nat.le_refl _))) hO4 hf4 HS'.out hGo
      · have hbu' : burns S = false := by simpa using hbu
        have e1 : ctS S n k = burnt S := by simp only [ctS, hf, hbu, hin]; simp
        have e2 : ctE S n k = 8 := by simp only [ctE, hf, hbu, hin]; simp
        rw [e1, e2]
        have HB := Lib.hid hbu'
        clear hf e1 e2 hbu hbu' hin hm1 hm2 hi
        go_enter Tryz.func65, Tryz.ntmps65
        go_wp2_with fail
        refine hat.mono ?_
        rintro e w1 ⟨rfl, rfl⟩
        go_wp2_with fail
        refine (refburn_is h HB.out).mono ?_
        rintro e w1 ⟨rfl, h1, t1⟩
        go_wp2_with fail
        go_ret
        exact rfpost_same h1 t1
    · have e1 : ctS S n m = S := by simp only [ctS, hf]; rw [if_neg hin]
      have e2 : ctE S n m = 1 := by simp only [ctE, hf]; rw [if_neg hin]
      rw [e1, e2]
      clear hf e1 e2 hi
      by_cases h0 : m < 0
      · clear hin
        go_enter Tryz.func65, Tryz.ntmps65
        go_wp2_with fail
        refine hat.mono ?_
        rintro e w1 ⟨rfl, rfl⟩
        go_wp2_with fail
        go_ret
        exact rfpost_same h (Turn.refl _ _)
      · have hgt : ((bs f.bt).size : Int) < m := by rw [HSZ.out]; omega
        have h0' : 0 ≤ m := by omega
        clear hin h0
        go_enter Tryz.func65, Tryz.ntmps65
        go_wp2_with fail
        refine hat.mono ?_
        rintro e w1 ⟨rfl, rfl⟩
        go_wp2_with fail
        go_ret
        exact rfpost_same h (Turn.refl _ _)
end Go.Proofs.YtmekkbhblghbmaaGreatDoor.D

/- The document's disk: its calls, further: Read, Size, Fuse, New, Strings. -/
namespace Go.Proofs.YtmekkbhblghbmaaGreatDoor.D
set_option maxRecDepth 100000
open Go.RowKit
set_option linter.unusedVariables false

theorem bs_mid (s : List UInt8) (i j : Nat) : (bs s).extract i (i + j) = bs ((s.drop i).take j) := by
  apply ByteArray.ext
  apply Array.ext'
  simp [bs, List.take_drop]

theorem slice_mid (s : List UInt8) (i j : Nat) (hij : i + j ≤ s.length) (W : World) :
    (Instr.slice 9 (.string (bs s)) (some (.int .i64 (i : Int))) (some (.int .i64 ((i : Int) + (j : Int)))) none).run Tryz.prog W = .ok (.string (bs ((s.drop i).take j))) W := by
  rw [run_slice_string (P := Tryz.prog) (w := W) 9 (bs s) .i64 .i64 (i : Int) ((i : Int) + (j : Int)) (by kernel_rfl) (by omega) (by omega) (by rw [bs_size]; omega), Int.toNat_natCast, show ((i : Int) + (j : Int)).toNat = i + j by omega, bs_mid]

set_option maxHeartbeats 2000000 in
theorem refread_any {B qb : Nat} {lv : Value} {S : St} {w : World} {n : List UInt8} {off m : Int} (h : Rf B w qb lv S) (ho1 : -9223372036854775808 ≤ off) (ho2 : off ≤ 9223372036854775807) (hm1 : -9223372036854775808 ≤ m) (hm2 : m ≤ 9223372036854775807) (hcs : S.fs.length < 1000000000) :
    Calls Tryz.prog 97 #[.pointer (some ⟨qb, 0, none⟩), .string (bs n), .int .i64 off, .int .i64 m] w fun e w' => e = .returned (.tuple #[.string (bs (rdB S n off m)), .int .i64 (rdE S n off m)]) ∧ w = w' := by
  cases hf : find S.fs n with
  | none =>
    have e1 : rdB S n off m = [] := by simp [rdB, hf]
    have e2 : rdE S n off m = 5 := by simp [rdE, hf]
    rw [e1, e2]
    have hat := refat_no h hf hcs
    clear hf e1 e2
    go_enter Tryz.func97, Tryz.ntmps97
    go_wp2_with fail
    refine hat.mono ?_
    rintro e w1 ⟨rfl, rfl⟩
    go_wp2_with fail
    go_ret2
    exact ⟨rfl, rfl⟩
  | some f =>
    obtain ⟨i0, hi, hfn⟩ := find_at hf
    have hat := refat_yes h hi hfn hcs
    have hfm := (find_mem hf).1
    have hfl := len_le h.good hfm
    have hszi : ((bs f.bt).size : Int) = f.bt.length := by rw [bs_size]
    have HSZ := Lib.hid hszi
    have hsz : (bs f.bt).size ≤ 1048576 := by rw [bs_size]; exact hfl
    clear hszi
    obtain ⟨c0, c1, c2, c3, fz⟩ := h.cells
    clear fz
    obtain ⟨a, cap, hv⟩ := files_form h.row
    subst hv
    obtain ⟨g, hg, _, hgl, d0, d1, d2⟩ := files_at h.row hi
    subst hg
    have hil : i0 < S.fs.length := (List.getElem?_eq_some_iff.1 hi).1
    by_cases hin : 0 ≤ off ∧ 0 ≤ m ∧ m ≤ f.bt.length - off
    · have e1 : rdB S n off m = (f.bt.drop off.toNat).take m.toNat := by simp only [rdB, hf]; rw [if_pos hin]
      have e2 : rdE S n off m = 0 := by simp only [rdE, hf]; rw [if_pos hin]
      rw [e1, e2]
      clear hf e1 e2 hi
      obtain ⟨hi1, hi2, hi3⟩ := hin
      obtain ⟨i, rfl⟩ : ∃ i : Nat, off = (i : Int) := ⟨off.toNat, by omega⟩
      obtain ⟨j, rfl⟩ : ∃ j : Nat, m = (j : Int) := ⟨m.toNat, by omega⟩
      have hij : i + j ≤ f.bt.length := by omega
      have hsl := slice_mid f.bt i j hij
      have T1 : (i : Int).toNat = i := Int.toNat_natCast i
      have T2 : (j : Int).toNat = j := Int.toNat_natCast j
      rw [T1, T2]
      clear T1 T2
      have r1 : (i : Int) ≤ ((bs f.bt).size : Int) := by rw [HSZ.out]; omega
      have r2 : (j : Int) ≤ ((bs f.bt).size : Int) - (i : Int) := by rw [HSZ.out]; omega
      clear ho1 hm1 hi1 hi2 hi3
      go_enter Tryz.func97, Tryz.ntmps97
      go_wp2_with fail
      refine hat.mono ?_
      rintro e w1 ⟨rfl, rfl⟩
      go_wp2_with fail
      go_ret2
      exact ⟨rfl, rfl⟩
    · have e1 : rdB S n off m = [] := by simp only [rdB, hf]; rw [if_neg hin]
      have e2 : rdE S n off m = 1 := by simp only [rdE, hf]; rw [if_neg hin]
      rw [e1, e2]
      clear hf e1 e2 hi
      by_cases h0 : off < 0
      · clear hin
        go_enter Tryz.func97, Tryz.ntmps97
        go_wp2_with fail
        refine hat.mono ?_
        rintro e w1 ⟨rfl, rfl⟩
        go_wp2_with fail
        go_ret2
        exact ⟨rfl, rfl⟩
      · have h0' : 0 ≤ off := by omega
        by_cases h1 : m < 0
        · clear hin h0
          go_enter Tryz.func97, Tryz.ntmps97
          go_wp2_with fail
          refine hat.mono ?_
          rintro e w1 ⟨rfl, rfl⟩
          go_wp2_with fail
          go_ret2
          exact ⟨rfl, rfl⟩
        · have h1' : 0 ≤ m := by omega
          by_cases h2 : ((bs f.bt).size : Int) < off
          · clear hin h0 h1
            go_enter Tryz.func97, Tryz.ntmps97
            go_wp2_with fail
            refine hat.mono ?_
            rintro e w1 ⟨rfl, rfl⟩
            go_wp2_with fail
            go_ret2
            exact ⟨rfl, rfl⟩
          · have h2' : off ≤ ((bs f.bt).size : Int) := by omega
            have h3 : ((bs f.bt).size : Int) - off < m := by rw [HSZ.out]; omega
            clear hin h0 h1 h2
            go_enter Tryz.func97, Tryz.ntmps97
            go_wp2_with fail
            refine hat.mono ?_
            rintro e w1 ⟨rfl, rfl⟩
            go_wp2_with fail
            go_ret2
            exact ⟨rfl, rfl⟩

theorem refsize_any {B qb : Nat} {lv : Value} {S : St} {w : World} {n : List UInt8} (h : Rf B w qb lv S) (hcs : S.fs.length < 1000000000) :
    Calls Tryz.prog 61 #[.pointer (some ⟨qb, 0, none⟩), .string (bs n)] w fun e w' => e = .returned (.tuple #[.int .i64 (szN S n), .int .i64 (szE S n)]) ∧ w = w' := by
  cases hf : find S.fs n with
  | none =>
    have e1 : szN S n = 0 := by simp [szN, hf]
    have e2 : szE S n = 5 := by simp [szE, hf]
    rw [e1, e2]
    have hat := refat_no h hf hcs
    clear hf e1 e2
    go_enter Tryz.func61, Tryz.ntmps61
    go_wp2_with fail
    refine hat.mono ?_
    rintro e w1 ⟨rfl, rfl⟩
    go_wp2_with fail
    go_ret2
    exact ⟨rfl, rfl⟩
  | some f =>
    obtain ⟨i0, hi, hfn⟩ := find_at hf
    have hat := refat_yes h hi hfn hcs
    have hfm := (find_mem hf).1
    have hfl := len_le h.good hfm
    have e1 : szN S n = ((bs f.bt).size : Nat) := by simp [szN, hf, bs_size]
    have e2 : szE S n = 0 := by simp [szE, hf]
    rw [e1, e2]
    have hsz : (bs f.bt).size ≤ 1048576 := by rw [bs_size]; exact hfl
    obtain ⟨c0, c1, c2, c3, fz⟩ := h.cells
    clear fz
    obtain ⟨a, cap, hv⟩ := files_form h.row
    subst hv
    obtain ⟨g, hg, _, hgl, d0, d1, d2⟩ := files_at h.row hi
    subst hg
    have hil : i0 < S.fs.length := (List.getElem?_eq_some_iff.1 hi).1
    clear hf e1 e2 hi
    go_enter Tryz.func61, Tryz.ntmps61
    go_wp2_with fail
    refine hat.mono ?_
    rintro e w1 ⟨rfl, rfl⟩
    go_wp2_with fail
    go_ret2
    exact ⟨rfl, rfl⟩

theorem good_fuS {S : St} (h : Good S) (n : Int) (hn : n ≤ 9223372036854775807) : Good (fuS S n) := by
  obtain ⟨g1, g2, g3, g4, g5, g6⟩ := h
  exact ⟨g1, g2, g3, g4, g5, by simp only [fuS]; omega⟩

theorem reffuse_any {B qb : Nat} {lv : Value} {S : St} {w : World} (h : Rf B w qb lv S) (n : Int) (h1 : -9223372036854775808 ≤ n) (h2 : n ≤ 9223372036854775807) :
    Calls Tryz.prog 32 #[.pointer (some ⟨qb, 0, none⟩), .int .i64 n] w (RfPost B qb lv (fuS S n) (.tuple #[]) w) := by
  obtain ⟨c0, c1, c2, c3, fz⟩ := h.cells
  have f2 := fz 2
  have HS := Lib.hid (h.setAt 2 (.int .i64 (max n (-1))))
  clear fz
  go_enter Tryz.func32, Tryz.ntmps32
  go_wp2
  go_end0
  refine rfpost_same (h.head (S' := fuS S n) (turn_head w qb 2 _) HS.out ?_ h.base.2.1 (good_fuS h.good n h2)) (turn_head w qb 2 _)
  exact owns_kept h.row (fun g hg => Below.heap_setCell _ _ _ _ (fun e => h.base.2.1 (by rw [hg, e])))

theorem refnew_no (room : Int) (w : World) (h : room < 0 ∨ 1048576 < room) (h1 : -9223372036854775808 ≤ room) (h2 : room ≤ 9223372036854775807) :
    Calls Tryz.prog 9 #[.int .i64 room] w fun e w' => e = .returned (.tuple #[.pointer none, .int .i64 1]) ∧ w = w' := by
  by_cases h0 : room < 0
  · clear h
    go_enter Tryz.func9, Tryz.ntmps9
    go_wp2
    go_ret2
    exact ⟨rfl, rfl⟩
  · have h3 : 1048576 < room := by omega
    have h4 : 0 ≤ room := by omega
    clear h
    go_enter Tryz.func9, Tryz.ntmps9
    go_wp2
    go_ret2
    exact ⟨rfl, rfl⟩

theorem refnew_yes (room : Int) (w : World) (h0 : 0 ≤ room) (h1 : room ≤ 1048576) : Calls Tryz.prog 9 #[.int .i64 room] w fun e w' =>
    e = .returned (.tuple #[.pointer (some ⟨w.heap.size, 0, none⟩), .int .i64 0]) ∧ Rf w.heap.size w' w.heap.size (.slice none 0 0) ⟨room, [], -1, false⟩ ∧ Below w.heap.size w w' := by
  have HR := Lib.hid h1
  go_enter Tryz.func9, Tryz.ntmps9
  go_wp2
  go_ret2
  refine ⟨rfl, ⟨heap_alloc_new w _, World.ownsRow_nil _ _ _ _, ⟨Nat.le_refl _, by simp [Value.ownBlock], by simp⟩, ⟨List.Pairwise.nil, fun f hf => (by cases hf), fun f hf => (by cases hf), by simp [total]; exact h0, HR.out, ⟨by simp, by simp⟩⟩⟩, (Below.refl _ _).alloc (Nat.le_refl _) _⟩

/-- Two rows of the same names are the same. -/
theorem strings_same {w : World} {Ba Bb : Nat} {a b : Option Addr} {ca cb : Nat} {ns : List (List UInt8)} (ha : w.ownsRow Ba 9 1 (.slice a ns.length ca) ns.length (strs ns)) (hb : w.ownsRow Bb 9 1 (.slice b ns.length cb) ns.length (strs ns)) (hn : ns.length < 1000000000) :
    Calls Tryz.prog 38 #[.slice a ns.length ca, .slice b ns.length cb] w fun e w' => e = .returned (.bool true) ∧ Below w.heap.size w w' := by
  obtain ⟨L, hL⟩ : ∃ L, L = ns.length := ⟨_, rfl⟩
  rw [← hL] at ha hb hn ⊢
  have HL := Lib.hid hL; have HA := Lib.hid ha; have HB := Lib.hid hb
  clear hL ha hb
  go_enter Tryz.func38, Tryz.ntmps38
  go_wp2
  go_loopg [5] L (fun g it wr => ∃ (i q : Nat), i + g = L ∧ it = .int .i64 i ∧ wr = w.drewN q)
  case atStart => exact ⟨0, 0, by omega, rfl, rfl⟩
  case round =>
    obtain ⟨i, q, hi, rfl, rfl⟩ := hrel
    by_cases hlt : i < L
    · obtain ⟨n, hn'⟩ : ∃ n, ns[i]? = some n := ⟨ns[i]'(by have := HL.out; omega), List.getElem?_eq_getElem _⟩
      have hcell : ∀ {B : Nat} {a : Option Addr} {c : Nat}, w.ownsRow B 9 1 (.slice a L c) L (strs ns) → ∃ g, a = some ⟨g, 0, none⟩ ∧ w.cell? ⟨g, i, none⟩ = some (.string (bs n)) := by
        intro B a c h
        rcases owns_cases h with ⟨_, h0, _⟩ | ⟨g, cap', cur, hv, _, _, _, _, _, _, _, _, hce, _⟩
        · omega
        · injection hv with e1 e2 e3
          exact ⟨g, e1, by rw [hce i hlt, strs_at, hn']; rfl⟩
      obtain ⟨ga, hga, da⟩ := hcell HA.out
      obtain ⟨gb, hgb, db⟩ := hcell HB.out
      subst hga hgb
      clear hcell hn'
      go_wp2
      go_quiet (fail)
      go_wp2
      go_roundg (gk - 1)
      case measure => omega
      case rel => exact ⟨i + 1, _, by omega, by go_num, rfl⟩
    · obtain rfl : i = L := by omega
      go_wp2
      go_ret
      exact ⟨rfl, ⟨rfl, rfl, rfl, Nat.le_refl _, fun _ _ => rfl⟩⟩
end Go.Proofs.YtmekkbhblghbmaaGreatDoor.D

/- The document's disk: the power goes and comes back. -/
namespace Go.Proofs.YtmekkbhblghbmaaGreatDoor.D
set_option maxRecDepth 100000
open Go.RowKit
set_option linter.unusedVariables false

theorem crash_mem (kept : List Int) : ∀ (l : List Fl) (i : Nat) (x : Fl), x ∈ crash kept i l → ∃ f ∈ l, ∃ j, x = crash1 kept j f
  | [], _, x, h => by simp [crash] at h
  | f :: r, i, x, h => by
    rw [crash, List.mem_cons] at h
    rcases h with rfl | h
    · exact ⟨f, List.mem_cons_self .., i, rfl⟩
    · obtain ⟨g, hg, j, e⟩ := crash_mem kept r (i + 1) x h
      exact ⟨g, List.mem_cons_of_mem _ hg, j, e⟩

theorem crash_total (kept : List Int) : ∀ (l : List Fl) (i : Nat), total (crash kept i l) ≤ total l
  | [], _ => Nat.le_refl _
  | f :: r, i => by
    rw [crash, total, total]
    have := crash_total kept r (i + 1)
    simp only [List.length_take]
    omega

theorem good_crS {S : St} (h : Good S) (kept : List Int) : Good (crS S kept) := by
  obtain ⟨g1, g2, g3, g4, g5, g6⟩ := h
  refine ⟨?_, fun x hx => ?_, fun x hx => ?_, ?_, g5, ⟨by simp [crS], by simp [crS]⟩⟩
  · have : Up id ((crash kept 0 S.fs).map Fl.nm) := by rw [crash_names]; exact (up_map (k := id) Fl.nm S.fs).2 g1
    exact (up_map (k := id) Fl.nm _).1 this
  · obtain ⟨f, hf, j, rfl⟩ := crash_mem kept S.fs 0 x hx
    exact g2 f hf
  · obtain ⟨f, hf, j, rfl⟩ := crash_mem kept S.fs 0 x hx
    have := stays_le kept j (g3 f hf)
    simp only [crash1, List.length_take]
    omega
  · have := crash_total kept S.fs 0
    simp only [crS]
    omega

theorem crash_take_succ {kept : List Int} {l : List Fl} {i : Nat} {f : Fl} (hf : l[i]? = some f) : crash kept 0 (l.take (i + 1)) = crash kept 0 (l.take i) ++ [crash1 kept i f] := by
  have hi : i < l.length := (List.getElem?_eq_some_iff.1 hf).1
  rw [List.take_add_one, hf, crash_append, List.length_take, Nat.min_eq_left (by omega)]
  simp [crash, crash1]

set_option maxHeartbeats 4000000 in
theorem refcrash_any {B qb : Nat} {lv : Value} {S : St} {w : World} {ka : Option Addr} {kc : Nat} {kept : List Int} (h : Rf B w qb lv S) (hk : Vals w ka (kept.map (Value.int .i64))) (hkr : ∀ y ∈ kept, -9223372036854775808 ≤ y ∧ y ≤ 9223372036854775807) (hkl : kept.length ≤ 9223372036854775807) (hcs : S.fs.length < 1000000000) :
    Calls Tryz.prog 37 #[.pointer (some ⟨qb, 0, none⟩), .slice ka kept.length kc] w (RfPost B qb lv (crS S kept) (.tuple #[]) w) := by
  obtain ⟨c0, c1, c2, c3, fz⟩ := h.cells
  clear fz
  have hq := h.lt.1
  have hgo := good_crS h.good kept
  obtain ⟨a, cap, hv⟩ := files_form h.row
  subst hv
  obtain ⟨L, hL⟩ : ∃ L, L = S.fs.length := ⟨_, rfl⟩
  have hrow := h.row
  rw [← hL] at hrow c1
  have hL9 : L < 1000000000 := by omega
  obtain ⟨kl, hkl'⟩ : ∃ kl, kl = kept.length := ⟨_, rfl⟩
  rw [← hkl']
  rw [← hkl'] at hkl
  have HL := Lib.hid hL; have HR := Lib.hid hrow; have HK := Lib.hid hk; have HKR := Lib.hid hkr; have HKL := Lib.hid hkl'; have HG := Lib.hid hgo
  clear hL hrow hk hkr hkl' hgo
  go_enter Tryz.func37, Tryz.ntmps37
  go_wp2
  go_loopg [4, 5] L (fun g s it wr => ∃ (i : Nat) (u : Value), i + g = L ∧ it = .int .i64 i ∧ u = s ∧ Files wr w.heap.size u (crash kept 0 (S.fs.take i)) ∧ Below w.heap.size w wr)
  case atStart => exact ⟨0, _, by omega, rfl, rfl, World.ownsRow_nil _ _ _ _, Below.refl _ _⟩
  case round =>
    obtain ⟨i, u, hi, rfl, rfl, hown, hbw⟩ := hrel
    rw [← hbw.cell (p := ⟨qb, 1, none⟩) hq] at c1
    by_cases hlt : i < L
    · obtain ⟨f, hf⟩ : ∃ f, S.fs[i]? = some f := ⟨S.fs[i]'(by have := HL.out; omega), List.getElem?_eq_getElem _⟩
      obtain ⟨g, hg, _, hgl, d0, d1, d2⟩ := files_at HR.out hf
      subst hg
      rw [← hbw.cell (p := ⟨g, _, none⟩) hgl] at d0 d1 d2
      have hfm := List.mem_of_getElem? hf
      have hsure := h.good.sure f hfm
      have hfl := len_le h.good hfm
      have hsl := stays_le kept i hsure
      have hsz : (bs f.bt).size ≤ 1048576 := by rw [bs_size]; exact hfl
      have hszs : (f.sure : Int) ≤ ((bs f.bt).size : Int) := by rw [bs_size]; omega
      have hbz := hbw.size
      have hst : ∀ x, kept[i]? = some x → ((stays kept i f : Nat) : Int) = (f.sure : Int) + min (max x 0) (((bs f.bt).size : Int) - (f.sure : Int)) := fun x hx => by
        unfold stays
        rw [hx, bs_size]
        dsimp only
        omega
      have hst2 : kept[i]? = none → stays kept i f = f.sure := fun hx => by unfold stays; rw [hx]
      have htk := crash_take_succ (kept := kept) hf
      have hml : (crash kept 0 (S.fs.take i)).length ≤ i := by rw [crash_len]; exact List.length_take_le _ _
      obtain ⟨d, hd⟩ : ∃ d, d = stays kept i f := ⟨_, rfl⟩
      rw [← hd] at hsl
      have hc1 : crash1 kept i f = ⟨f.nm, f.bt.take d, d⟩ := by rw [hd]; rfl
      rw [hc1] at htk
      have hslice := slice_str f.bt d hsl.1
      have hdz : (bs (f.bt.take d)).size = d := by rw [bs_size, List.length_take]; omega
      have happ : ∀ W, W.heap[wr.heap.size + 1]? = some (.cells #[.string (bs f.nm), .string (bs (f.bt.take d)), .int .i64 ((bs (f.bt.take d)).size : Nat)] 113 (0, 0)) → w.heap.size ≤ W.heap.size → Files W w.heap.size u (crash kept 0 (S.fs.take i)) →
          ∃ v' w1, (∀ ty, (Builtin.append_ #[83, 83] ty #[u, .slice (some ⟨wr.heap.size + 1, 0, none⟩) 1 1]).run Tryz.prog W = .ok v' w1) ∧
            Files w1 w.heap.size v' (crash kept 0 (S.fs.take i) ++ [⟨f.nm, f.bt.take d, d⟩]) ∧ W.grownBy w1 u.ownBlock := fun W hblk hWs hWf => by
        obtain ⟨v', w1, q1, q2, q3, q4⟩ := run_append_files hWf (.slice (some ⟨wr.heap.size + 1, 0, none⟩) 1 1) [⟨f.nm, f.bt.take d, (bs (f.bt.take d)).size⟩] (src_one ⟨f.nm, f.bt.take d, (bs (f.bt.take d)).size⟩ _ (wr.heap.size + 1) hblk) (by simp; omega) hWs 0
        rw [hdz] at q2
        exact ⟨v', w1, fun _ => q1, q2, q3⟩
      have HST := Lib.hid hst; have HST2 := Lib.hid hst2; have HTK := Lib.hid htk; have HD := Lib.hid hd; have HDZ := Lib.hid hdz; have HAPP := Lib.hid happ; have HOWN := Lib.hid hown; have HBW := Lib.hid hbw
      clear hst hst2 htk hd hdz happ hf hc1 hown hfm
      obtain ⟨s1, s2⟩ := hsl
      have hdsz : (d : Int) ≤ ((bs f.bt).size : Int) := by rw [bs_size]; omega
      by_cases hik : i < kl
      · have hik' : i < kept.length := by rw [← HKL.out]; exact hik
        obtain ⟨b, off, hka, hkc⟩ := HK.out.at hbw (Nat.le_refl _) i (.int .i64 kept[i]) (by rw [List.getElem?_map, List.getElem?_eq_getElem hik']; rfl)
        subst hka
        have hxr := HKR.out kept[i] (List.getElem_mem hik')
        obtain ⟨x, hx⟩ : ∃ x, x = kept[i] := ⟨_, rfl⟩
        rw [← hx] at hkc hxr
        have HX := Lib.hid hx; clear hx hbw
        obtain ⟨r1, r2⟩ := hxr
        have hbl : b < wr.heap.size := World.block_lt_of_cell? _ _ hkc
        go_wp2_with fail
        go_region
        have hdx : (f.sure : Int) + min (max x 0) (((bs f.bt).size : Int) - (f.sure : Int)) = (d : Int) := by
          rw [HD.out]
          exact (HST.out x (by rw [HX.out]; exact List.getElem?_eq_getElem hik')).symm
        obtain ⟨m, hm⟩ : ∃ m, m = min (max x 0) (((bs f.bt).size : Int) - (f.sure : Int)) := ⟨_, rfl⟩
        rw [← hm] at hdx ⊢
        have m0 : 0 ≤ m := by omega
        have m1 : m ≤ 1048576 := by omega
        have hslice' : ∀ W : World, (Instr.slice 9 (.string (bs f.bt)) none (some (.int .i64 ((f.sure : Int) + m))) none).run Tryz.prog W = .ok (.string (bs (f.bt.take d))) W := fun W => by rw [hdx]; exact hslice W
        clear hm hdx hslice
        obtain ⟨v', w1, hrun, hown', hgrow⟩ := HAPP.out ((wr.alloc (.cells #[.string (bs f.nm), .string (bs (f.bt.take d)), .int .i64 ((bs (f.bt.take d)).size : Nat)] 113)).alloc (.cells #[.string (bs f.nm), .string (bs (f.bt.take d)), .int .i64 ((bs (f.bt.take d)).size : Nat)] 113)).drew (heap_two_new wr _ _) (by have := HBW.out.size; simp; omega) (Files.drew (Files.alloc (Files.alloc HOWN.out _) _))
        have HRUN := Lib.hid hrun; have HO' := Lib.hid hown'; have HG2 := Lib.hid hgrow
        clear hrun hown' hgrow
        go_wp2_with (first
          | (at_builtin; refine wpList_append_run _ rfl _ _ _ _ rfl _ _ rfl rfl _ _ HRUN.out ?_)
          | fail)
        go_roundg (gk - 1)
        case measure => omega
        case rel =>
          exact ⟨i + 1, _, by omega, by go_num, rfl, by rw [HTK.out]; exact HO'.out, Below.grown (((HBW.out.alloc hbz _).alloc (by simp; omega) _).drew) HG2.out (by simp; omega) (fun j hj => (HOWN.out.lt _ hj).1)⟩
      · have hdk : d = f.sure := by
          rw [HD.out]
          exact HST2.out (List.getElem?_eq_none (by have := HKL.out; omega))
        have hslice' : ∀ W : World, (Instr.slice 9 (.string (bs f.bt)) none (some (.int .i64 (f.sure : Int))) none).run Tryz.prog W = .ok (.string (bs (f.bt.take d))) W := fun W => by rw [← hdk]; exact hslice W
        clear hslice hbw hdk
        obtain ⟨v', w1, hrun, hown', hgrow⟩ := HAPP.out ((wr.alloc (.cells #[.string (bs f.nm), .string (bs (f.bt.take d)), .int .i64 ((bs (f.bt.take d)).size : Nat)] 113)).alloc (.cells #[.string (bs f.nm), .string (bs (f.bt.take d)), .int .i64 ((bs (f.bt.take d)).size : Nat)] 113)) (heap_two_new wr _ _) (by have := HBW.out.size; simp; omega) (Files.alloc (Files.alloc HOWN.out _) _)
        have HRUN := Lib.hid hrun; have HO' := Lib.hid hown'; have HG2 := Lib.hid hgrow
        clear hrun hown' hgrow
        go_wp2_with (first
          | (at_builtin; refine wpList_append_run _ rfl _ _ _ _ rfl _ _ rfl rfl _ _ HRUN.out ?_)
          | fail)
        go_roundg (gk - 1)
        case measure => omega
        case rel =>
          exact ⟨i + 1, _, by omega, by go_num, rfl, by rw [HTK.out]; exact HO'.out, Below.grown ((HBW.out.alloc hbz _).alloc (by simp; omega) _) HG2.out (by simp; omega) (fun j hj => (HOWN.out.lt _ hj).1)⟩
    · obtain rfl : i = L := by omega
      have hall : S.fs.take i = S.fs := List.take_of_length_le (by rw [HL.out]; exact Nat.le_refl _)
      rw [hall] at hown
      clear hall
      have hr2 : Rf B wr qb (.slice a cap cap) S → True := fun _ => trivial
      have q1 := c1
      have qf : wr.frozen? ⟨qb, 1, none⟩ = false := by rw [Below.frozen (p := ⟨qb, 1, none⟩) hbw hq]; exact h.cells.2.2.2.2 1
      have qf3 : wr.frozen? ⟨qb, 3, none⟩ = false := by rw [Below.frozen (p := ⟨qb, 3, none⟩) hbw hq]; exact h.cells.2.2.2.2 3
      have qf2 : wr.frozen? ⟨qb, 2, none⟩ = false := by rw [Below.frozen (p := ⟨qb, 2, none⟩) hbw hq]; exact h.cells.2.2.2.2 2
      have q3 : wr.cell? ⟨qb, 3, none⟩ = some (.bool S.down) := by rw [Below.cell (p := ⟨qb, 3, none⟩) hbw hq]; exact c3
      have q2 : wr.cell? ⟨qb, 2, none⟩ = some (.int .i64 S.lit) := by rw [Below.cell (p := ⟨qb, 2, none⟩) hbw hq]; exact c2
      obtain ⟨ua, uc, hu⟩ := files_form hown
      obtain ⟨M, hM⟩ : ∃ M, M = (crash kept 0 S.fs).length := ⟨_, rfl⟩
      rw [← hM] at hu
      subst hu
      have HM := Lib.hid hM; have HO := Lib.hid hown; have HBW := Lib.hid hbw
      clear hM hown hbw hr2
      go_wp2_with fail
      go_end0
      have hlt' := HO.out.lt
      have hne : ∀ g, (Value.slice ua M uc).ownBlock = some g → g ≠ qb := fun g hg e => by have := (hlt' g hg).1; omega
      have hqx : wr.heap[qb]? = some (.cells #[.int .i64 S.room, .slice a S.fs.length cap, .int .i64 S.lit, .bool S.down] 85 (0, 0)) := by rw [HBW.out.block qb hq]; exact h.blk
      have hb := heap_setCell_same _ qb 2 _ _ (.int .i64 (-1)) (heap_setCell_same _ qb 3 _ _ (.bool false) (heap_setCell_same wr qb 1 _ _ (.slice ua M uc) hqx))
      have ht : Turn (fun k => k = qb) w (((wr.setCell ⟨qb, 1, none⟩ (.slice ua M uc)).setCell ⟨qb, 3, none⟩ (.bool false)).setCell ⟨qb, 2, none⟩ (.int .i64 (-1))) :=
        (((Turn.of_below (fun k => k = qb) HBW.out (Nat.le_refl _)).trans (turn_head wr qb 1 _)).trans (turn_head _ qb 3 _)).trans (turn_head _ qb 2 _)
      refine ⟨rfl, .slice ua M uc, h.head (S' := crS S kept) ht (by rw [hb]; rfl) ?_ (fun e => hne _ e rfl) HG.out, ht, fun g hgg => Or.inr (hlt' g hgg).1⟩
      refine files_base (B := w.heap.size) ?_ h.base.2.2
      exact owns_kept HO.out (fun g hg => by
        rw [Below.heap_setCell _ _ _ _ (hne g hg), Below.heap_setCell _ _ _ _ (hne g hg), Below.heap_setCell _ _ _ _ (hne g hg)])
end Go.Proofs.YtmekkbhblghbmaaGreatDoor.D

/- The program's disk and the document's, side by side. -/
namespace Go.Proofs.YtmekkbhblghbmaaGreatDoor.D
set_option maxRecDepth 100000
open Go.RowKit
set_option linter.unusedVariables false

/-- Both disks, apart from one another and from the blocks X. -/
def Bo (B : Nat) (w : World) (pb qb : Nat) (X : Nat → Prop) (Sd Sr : St) : Prop :=
  ∃ F lv, DkS B w pb F Sd ∧ Rf B w qb lv Sr ∧ (∀ k, F k → k ≠ qb ∧ lv.ownBlock ≠ some k) ∧ ∀ k, X k → k < w.heap.size ∧ ¬ F k ∧ k ≠ qb ∧ lv.ownBlock ≠ some k

/-- Nothing below B has turned, and none of the blocks X. -/
def Fr (B : Nat) (X : Nat → Prop) (w w' : World) : Prop := Below B w w' ∧ ∀ k, X k → w'.heap[k]? = w.heap[k]?

section
variable {B pb qb : Nat} {X : Nat → Prop} {Sd Sr Sd' Sr' : St} {w w' : World} {fn : Nat} {args : Array Value} {r : Value}

theorem Fr.refl : Fr B X w w := ⟨Below.refl _ _, fun _ _ => rfl⟩
theorem Fr.trans {a b c : World} (h : Fr B X a b) (k : Fr B X b c) : Fr B X a c := ⟨h.1.trans k.1, fun i hi => (k.2 i hi).trans (h.2 i hi)⟩

theorem Bo.size (h : Bo B w pb qb X Sd Sr) : B ≤ w.heap.size := by obtain ⟨F, lv, _, hr, _⟩ := h; exact hr.base.2.2
theorem Bo.good (h : Bo B w pb qb X Sd Sr) : Good Sd ∧ Good Sr := by obtain ⟨F, lv, hd, hr, _⟩ := h; exact ⟨hd.good, hr.good⟩

/-- What only makes new blocks leaves them as they are. -/
theorem Bo.below (h : Bo B w pb qb X Sd Sr) (hb : Below w.heap.size w w') : Bo B w' pb qb X Sd Sr := by
  obtain ⟨F, lv, hd, hr, h1, h2⟩ := h
  exact ⟨F, lv, hd.kept (Turn.of_below (fun _ => False) hb (Nat.le_refl _)) (fun _ _ _ f => f), hr.below hb, h1, fun k hk => by
    obtain ⟨a1, a2⟩ := h2 k hk
    exact ⟨Nat.lt_of_lt_of_le a1 hb.size, a2⟩⟩
theorem Fr.below (h : Bo B w pb qb X Sd Sr) (hb : Below w.heap.size w w') : Fr B X w w' := ⟨hb.mono h.size, fun k hk => by
  obtain ⟨F, lv, hd, hr, h1, h2⟩ := h
  exact hb.block k (h2 k hk).1⟩

/-- A new block may be watched. -/
theorem Bo.watch (h : Bo B w pb qb (fun _ => False) Sd Sr) (o : Obj) : Bo B (w.alloc o) pb qb (fun k => k = w.heap.size) Sd Sr := by
  obtain ⟨F, lv, hd, hr, h1, h2⟩ := h
  refine ⟨F, lv, hd.kept ((Turn.refl (fun _ => False) w).alloc o) (fun _ _ _ f => f), hr.kept ((Turn.refl (fun _ => False) w).alloc o) (fun _ _ _ f => f), h1, ?_⟩
  rintro k rfl
  exact ⟨by simp, fun hf => by have := (hd.lt hf).2; omega, fun e => by have := hr.lt.1; omega, fun e => by have := (hr.lt.2 _ e).2; omega⟩
theorem Bo.drop (h : Bo B w pb qb X Sd Sr) : Bo B w pb qb (fun _ => False) Sd Sr := by
  obtain ⟨F, lv, hd, hr, h1, h2⟩ := h
  exact ⟨F, lv, hd, hr, h1, fun k hk => hk.elim⟩

theorem bo_d (h : Bo B w pb qb X Sd Sr) (hc : ∀ F, DkS B w pb F Sd → (∀ k, X k → k < w.heap.size ∧ ¬ F k) → Calls Tryz.prog fn args w (DkPost B pb F Sd' r w)) : Calls Tryz.prog fn args w fun e w' => e = .returned r ∧ Bo B w' pb qb X Sd' Sr ∧ Fr B X w w' := by
  obtain ⟨F, lv, hd, hr, h1, h2⟩ := h
  refine (hc F hd (fun k hk => ⟨(h2 k hk).1, (h2 k hk).2.1⟩)).mono ?_
  rintro e w' ⟨rfl, F', hd', hF', t⟩
  have hB := hr.base.2.2
  refine ⟨rfl, ⟨F', lv, hd', hr.kept t (fun k hk hkk hf => ?_), fun k hk => ?_, fun k hk => ?_⟩, t.below (fun k hk => (hd.lt hk).1) hB, fun k hk => t.block k (h2 k hk).1 (h2 k hk).2.1⟩
  · rcases hkk with e | e
    · exact (h1 k hf).1 e
    · exact (h1 k hf).2 e
  · rcases hF' k hk with hk | hk
    · exact h1 k hk
    · exact ⟨fun e => by have := hr.lt.1; omega, fun e => by have := (hr.lt.2 k e).2; omega⟩
  · obtain ⟨a1, a2, a3, a4⟩ := h2 k hk
    exact ⟨Nat.lt_of_lt_of_le a1 t.size, fun hf => by
      rcases hF' k hf with hf | hf
      · exact a2 hf
      · omega, a3, a4⟩

theorem bo_r (h : Bo B w pb qb X Sd Sr) (hc : ∀ lv, Rf B w qb lv Sr → Calls Tryz.prog fn args w (RfPost B qb lv Sr' r w)) : Calls Tryz.prog fn args w fun e w' => e = .returned r ∧ Bo B w' pb qb X Sd Sr' ∧ Fr B X w w' := by
  obtain ⟨F, lv, hd, hr, h1, h2⟩ := h
  refine (hc lv hr).mono ?_
  rintro e w' ⟨rfl, lv', hr', t, hl⟩
  have hB := hr.base.2.2
  refine ⟨rfl, ⟨F, lv', hd.kept t (fun k hk hf e => (h1 k hf).1 e), hr', fun k hk => ⟨(h1 k hk).1, fun e => ?_⟩, fun k hk => ?_⟩, t.below (fun k hk => by rw [hk]; exact hr.base.1) hB, fun k hk => t.block k (h2 k hk).1 (h2 k hk).2.2.1⟩
  · rcases hl k e with e | e
    · exact (h1 k hk).2 e
    · have := (hd.lt hk).2; omega
  · obtain ⟨a1, a2, a3, a4⟩ := h2 k hk
    exact ⟨Nat.lt_of_lt_of_le a1 t.size, a2, a3, fun e => by
      rcases hl k e with e | e
      · exact a4 e
      · omega⟩
end

theorem fu_room (S : St) (n : Int) : (fuS S n).fs.length ≤ S.fs.length + 1 := by simp [fuS]
theorem cr_room (S : St) (kept : List Int) : (crS S kept).fs.length ≤ S.fs.length + 1 := by simp [crS, crash_len]
end Go.Proofs.YtmekkbhblghbmaaGreatDoor.D
