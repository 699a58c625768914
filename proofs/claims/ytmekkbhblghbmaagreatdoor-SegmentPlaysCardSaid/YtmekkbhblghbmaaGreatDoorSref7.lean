/- The document's segments, on the document's disk: All. -/
import Derived.Test.YtmekkbhblghbmaaGreatDoorSref6
namespace Go.Proofs.YtmekkbhblghbmaaGreatDoor
open Go.RowKit
set_option linter.unusedVariables false

theorem infoInt8 : (Tryz.prog.info? 3).map (fun i => (i.zero, i.size, i.bytes)) = some (some (.int .i64 0), 1, 8) := by kernel_rfl
def intsV (l : List Int) : List Value := l.map (Value.int .i64)
theorem intsV_len (l : List Int) : (intsV l).length = l.length := by simp [intsV]
theorem intsV_snoc (l : List Int) (n : Int) : intsV (l ++ [n]) = intsV l ++ [.int .i64 n] := by simp [intsV]
theorem owns_form8 {w : World} {B n : Nat} {e : TypeId} {v : Value} {xs : List Value} (h : w.ownsRow B e 1 v n xs) : ∃ a cap, v = .slice a n cap := by
  rcases owns_cases h with ⟨rfl, rfl, _⟩ | ⟨g, cap, cur, hv, _⟩
  · exact ⟨none, 0, rfl⟩
  · exact ⟨_, cap, hv⟩
/-- The numbers of the first files. -/
def nums (l : List D.Fl) : List Int := ((l.map D.Fl.nm).filter isNum).map numOf
theorem nums_snoc (l : List D.Fl) (f : D.Fl) : nums (l ++ [f]) = if isNum f.nm = true then nums l ++ [numOf f.nm] else nums l := by
  unfold nums
  rw [List.map_append, List.filter_append, List.map_append]
  by_cases h : isNum f.nm = true <;> simp [h]
theorem nums_len (l : List D.Fl) : (nums l).length ≤ l.length := by
  unfold nums
  rw [List.length_map]
  exact Nat.le_trans (List.length_filter_le _ _) (by simp)

/-- Numbers are told, in memory that is new. -/
def NumsR (w : World) (l : List Int) (e : Ending) (w' : World) : Prop := ∃ a cap, e = .returned (.slice a l.length cap) ∧ w'.ownsRow w.heap.size 3 1 (.slice a l.length cap) l.length (intsV l) ∧ Below w.heap.size w w'

set_option maxRecDepth 100000 in
set_option maxHeartbeats 2000000 in
theorem refAll8_any {B qb : Nat} {lv : Value} {S : D.St} {w : World} (h : D.Rf B w qb lv S) (hcs : S.fs.length < 1000000000) :
    Calls Tryz.prog 43 #[.pointer (some ⟨qb, 0, none⟩)] w (NumsR w (alL S)) := by
  rw [show alL S = nums S.fs from rfl]
  obtain ⟨c0, c1, c2, c3, fz⟩ := h.cells
  clear fz
  obtain ⟨i0, hi0, hz0, hz1, hz2⟩ := info_parts infoInt8
  have HI0 := Lib.hid (And.intro hi0 (And.intro hz0 (And.intro hz1 hz2)))
  clear hi0 hz0 hz1 hz2
  obtain ⟨a, cap, hv⟩ := D.files_form h.row
  obtain ⟨L, hL⟩ : ∃ L, L = S.fs.length := ⟨_, rfl⟩
  have hrow := h.row
  have hq := h.lt.1
  rw [hv] at hrow c1
  rw [← hL] at hrow c1 hcs
  have HL := Lib.hid hL; have HR := Lib.hid hrow
  have HG := Lib.hid h.good.names
  clear hL hrow hv h c0 c2 c3
  go_enter Tryz.func43, Tryz.ntmps43
  go_wp2_with fail
  go_loopg [3, 4] L (fun g s it wr => ∃ (i : Nat) (u : Value), i + g = L ∧ it = .int .i64 i ∧ u = s ∧ wr.ownsRow w.heap.size 3 1 u (nums (S.fs.take i)).length (intsV (nums (S.fs.take i))) ∧ Below w.heap.size w wr)
  case atStart => exact ⟨0, _, by omega, rfl, rfl, World.ownsRow_nil _ _ _ _, Below.refl _ _⟩
  case round =>
    obtain ⟨i, u, hi, rfl, rfl, hown, hbw⟩ := hrel
    rw [← hbw.cell (p := ⟨qb, 1, none⟩) hq] at c1
    by_cases hlt : i < L
    · obtain ⟨f, hf⟩ : ∃ f, S.fs[i]? = some f := ⟨S.fs[i]'(by have := HL.out; omega), List.getElem?_eq_getElem _⟩
      obtain ⟨g, hg, _, hgl, d0, d1, d2⟩ := D.files_at HR.out hf
      subst hg
      rw [← hbw.cell (p := ⟨g, _, none⟩) hgl] at d0
      have htk : nums (S.fs.take (i + 1)) = if isNum f.nm = true then nums (S.fs.take i) ++ [numOf f.nm] else nums (S.fs.take i) := by rw [List.take_add_one, hf]; exact nums_snoc _ _
      have hml : (nums (S.fs.take i)).length ≤ i := Nat.le_trans (nums_len _) (List.length_take_le _ _)
      have hfn := (HG.out f (List.mem_of_getElem? hf)).2
      have HNB := Lib.hid (fun W => refNumber_any f.nm W (by omega))
      unfold numVal at HNB
      clear hf d1 d2
      have HO := Lib.hid hown; have HBW := Lib.hid hbw; clear hown
      cases hb : isNum f.nm with
      | false =>
        rw [hb, if_neg (by simp)] at htk
        rw [hb, if_neg (by simp)] at HNB
        have HT := Lib.hid htk
        clear htk hb
        go_wp2_with fail
        refine (HNB.out _).mono ?_
        rintro e w2 ⟨rfl, hb2⟩
        have HB2 := Lib.hid hb2
        have hz := HBW.out.size
        clear hb2
        go_wp2_with fail
        go_roundg (gk - 1)
        case measure => omega
        case rel => exact ⟨i + 1, _, by omega, by go_num, rfl, by rw [HT.out]; exact owns_kept HO.out (fun g hg => HB2.out.block g (HO.out.lt g hg).2), HBW.out.trans (HB2.out.mono hz)⟩
      | true =>
        rw [hb, if_pos rfl] at htk
        rw [hb, if_pos rfl] at HNB
        have HT := Lib.hid htk
        clear htk hb
        obtain ⟨nv, hnv⟩ : ∃ nv, nv = numOf f.nm := ⟨_, rfl⟩
        rw [← hnv] at HNB
        have HNV := Lib.hid hnv
        clear hnv
        go_wp2_with fail
        refine (HNB.out _).mono ?_
        rintro e w2 ⟨rfl, hb2⟩
        have HO2 := Lib.hid (owns_kept HO.out (fun g hg => hb2.block g (HO.out.lt g hg).2))
        have HB2 := Lib.hid (HBW.out.trans (hb2.mono HBW.out.size))
        have hbz := HB2.out.size
        clear hb2 HO
        go_wp2_with (first
          | (at_builtin; refine wpList_append_own_at _ rfl _ _ 32 rfl w.heap.size 3 i0 _ 1 8 Tryz.underlying32 HI0.out.1 HI0.out.2.1 HI0.out.2.2.1 HI0.out.2.2.2 rfl (by decide) _ _ _ rfl (HO2.out.alloc _) ⟨w2.heap.size, 0, none⟩ 1 1 [.int .i64 nv] rfl rfl (cell_one_new _ _ _) (by simp [Value.oneCell']) (by unfold maxLen; omega) (by omega) (by simp; omega) ?_; intro v' w3 hown' hgrow hnil hloc)
          | fail)
        go_roundg (gk - 1)
        case measure => omega
        case rel =>
          refine ⟨i + 1, _, by omega, by go_num, rfl, ?_, Below.grown (HB2.out.alloc hbz _) hgrow (by simp; omega) (fun j hj => (HO2.out.lt _ hj).1)⟩
          rw [HT.out, ← HNV.out, intsV_snoc, List.length_append]
          exact hown'
    · obtain rfl : i = L := by omega
      have hall : S.fs.take i = S.fs := List.take_of_length_le (by rw [HL.out]; exact Nat.le_refl _)
      rw [hall] at hown
      clear hall
      obtain ⟨ua, uc, hu⟩ := owns_form8 hown
      obtain ⟨M, hM⟩ : ∃ M, M = (nums S.fs).length := ⟨_, rfl⟩
      rw [← hM] at hown hu
      subst hu
      have HM := Lib.hid hM; have HO := Lib.hid hown; clear hM hown
      go_wp2_with fail
      go_ret
      refine ⟨ua, uc, ?_, ?_, hbw⟩
      · rw [← HM.out]; rfl
      · rw [← HM.out]; exact HO.out
end Go.Proofs.YtmekkbhblghbmaaGreatDoor
