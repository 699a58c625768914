/- Blocks in a row; are they what the document says? What is asked of the program's cache. -/
import Derived.Test.YtbndhhlekfdppaaLdrop
import Derived.Test.YtbndhhlekfdppaaBopens
namespace Go.Proofs.Ytbndhhlekfdppaa.L
open Go.RowKit
set_option linter.unusedVariables false

/-- The cells of blocks. -/
def bflat : List Bk → List Value
  | [] => []
  | x :: r => .int .i64 x.seg :: .int .i64 x.n :: bflat r
theorem bflat_len : ∀ l : List Bk, (bflat l).length = l.length * 2
  | [] => rfl
  | x :: r => by simp [bflat, bflat_len r]; omega
theorem bflat_append : ∀ a b : List Bk, bflat (a ++ b) = bflat a ++ bflat b
  | [], _ => rfl
  | x :: r, b => by simp [bflat, bflat_append r b]
theorem bflat_at : ∀ (l : List Bk) (i : Nat) (x : Bk), l[i]? = some x → (bflat l)[i * 2]? = some (.int .i64 x.seg) ∧ (bflat l)[i * 2 + 1]? = some (.int .i64 x.n)
  | [], i, x, h => by simp at h
  | y :: r, 0, x, h => by
    obtain rfl : y = x := by simpa using h
    exact ⟨rfl, rfl⟩
  | y :: r, i + 1, x, h => by
    have := bflat_at r i x (by simpa using h)
    rw [show (i + 1) * 2 = i * 2 + 2 by omega, show i * 2 + 2 + 1 = i * 2 + 1 + 2 by omega]
    exact this
theorem bflat_one : ∀ (l : List Bk), ∀ u ∈ bflat l, u.oneCell' = true
  | [], u, h => by simp [bflat] at h
  | x :: r, u, h => by
    simp only [bflat, List.mem_cons] at h
    rcases h with rfl | rfl | h
    · rfl
    · rfl
    · exact bflat_one r u h
def Bks (w : World) (B : Nat) (v : Value) (l : List Bk) : Prop := w.ownsRow B 32 2 v l.length (bflat l)
theorem bks_at {w : World} {B : Nat} {a : Option Addr} {n c : Nat} {l : List Bk} (h : Bks w B (.slice a n c) l) (hn : n = l.length) {i : Nat} {x : Bk} (hx : l[i]? = some x) :
    ∃ g, a = some ⟨g, 0, none⟩ ∧ B ≤ g ∧ g < w.heap.size ∧ w.cell? ⟨g, i * 2, none⟩ = some (.int .i64 x.seg) ∧ w.cell? ⟨g, i * 2 + 1, none⟩ = some (.int .i64 x.n) := by
  have hi := (List.getElem?_eq_some_iff.1 hx).1
  subst hn
  obtain ⟨g, rfl, h1, h2, h3⟩ := row_at h (by omega)
  obtain ⟨e0, e1⟩ := bflat_at l i x hx
  exact ⟨g, rfl, h1, h2, by rw [h3 _ (by omega)]; exact e0, by rw [h3 _ (by omega)]; exact e1⟩

set_option maxHeartbeats 1000000 in
theorem same_any {w : World} {B B' : Nat} {v v' : Value} {l : List It} (h : Bks w B v (l.map Prod.fst)) (h' : Items w B' v' l) (hn : l.length ≤ 1000000) :
    Calls Try.prog 14 #[v, v'] w fun e w' => e = .returned (.bool true) ∧ Below w.heap.size w w' := by
  obtain ⟨a, c, rfl⟩ := slice_form h
  obtain ⟨a', c', rfl⟩ := slice_form h'
  obtain ⟨L, hL⟩ : ∃ L, L = l.length := ⟨_, rfl⟩
  have hLm : (l.map Prod.fst).length = L := by rw [List.length_map, hL]
  rw [hLm] at h ⊢
  rw [← hL] at h' hn ⊢
  have HL := Lib.hid hL; have HLM := Lib.hid hLm; have H := Lib.hid h; have H' := Lib.hid h'
  clear hL hLm h h'
  go_enter Try.func14, Try.ntmps14
  go_wp2
  go_loopg [5] L (fun g it wr => ∃ i : Nat, i + g = L ∧ it = .int .i64 i ∧ Below w.heap.size w wr)
  case atStart => exact ⟨0, by omega, rfl, Below.refl _ _⟩
  case round =>
    obtain ⟨i, hi, rfl, hbw⟩ := hrel
    by_cases hlt : i < L
    · obtain ⟨x, hx⟩ : ∃ x, l[i]? = some x := ⟨l[i]'(by have := HL.out; omega), List.getElem?_eq_getElem _⟩
      obtain ⟨g, hg, _, hgl, d0, d1⟩ := bks_at H.out HLM.out.symm (x := x.1) (by rw [List.getElem?_map, hx]; rfl)
      obtain ⟨g', hg', _, hgl', d2, d3, d4⟩ := items_at H'.out HL.out hx
      subst hg hg'
      have e0 := (hbw.cell (p := ⟨g, _, none⟩) hgl).trans d0
      have e1 := (hbw.cell (p := ⟨g, _, none⟩) hgl).trans d1
      have e2 := (hbw.cell (p := ⟨g', _, none⟩) hgl').trans d2
      have e3 := (hbw.cell (p := ⟨g', _, none⟩) hgl').trans d3
      have e4 := (hbw.cell (p := ⟨g', _, none⟩) hgl').trans d4
      have HBW := Lib.hid hbw
      clear hx d0 d1 d2 d3 d4 hbw
      generalize x.1.seg = xs at *
      generalize x.1.n = xn at *
      go_wp2
      go_quiet (fail)
      have HB2 := Lib.hid (HBW.out.trans ((below_drewN (Below.refl wr.heap.size wr) nq).mono HBW.out.size))
      generalize wr.drewN nq = w2 at *
      go_wp2
      go_roundg (gk - 1)
      case measure => omega
      case rel => exact ⟨i + 1, by omega, by go_num, HB2.out⟩
    · obtain rfl : i = L := by omega
      go_wp2
      go_ret
      exact ⟨rfl, hbw⟩
end Go.Proofs.Ytbndhhlekfdppaa.L
