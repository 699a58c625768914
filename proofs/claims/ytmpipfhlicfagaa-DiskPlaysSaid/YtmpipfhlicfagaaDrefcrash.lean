/- The document's disk: the power goes and comes back. -/
import Derived.Test.YtmpipfhlicfagaaDrefcalls4
namespace Go.Proofs.Ytmpipfhlicfagaa
open Go.RowKit
set_option linter.unusedVariables false

theorem crash_mem (kept : List Int) : ∀ (l : List Fl) (i : Nat) (x : Fl), x ∈ crash kept i l → ∃ f ∈ l, ∃ j, x = crash1 kept j f
  | [], _, x, h => by simp [crash] at h
  | f :: r, i, x, h => by
    rw [crash, List.mem_cons] at h
    rcases h with rfl | h
    · exact ⟨f, List.mem_cons_self .., i, rfl⟩
    · obtain ⟨g, hg, j, e⟩ := crash_mem kept r (i + 1) x h
      exact ⟨g, List.mem_cons_of_mem _ hg, j, e⟩

theorem crash_total (kept : List Int) : ∀ (l : List Fl) (i : Nat), total (crash kept i l) ≤ total l
  | [], _ => Nat.le_refl _
  | f :: r, i => by
    rw [crash, total, total]
    have := crash_total kept r (i + 1)
    simp only [List.length_take]
    omega

theorem good_crS {S : St} (h : Good S) (kept : List Int) : Good (crS S kept) := by
  obtain ⟨g1, g2, g3, g4, g5, g6⟩ := h
  refine ⟨?_, fun x hx => ?_, fun x hx => ?_, ?_, g5, ⟨by simp [crS], by simp [crS]⟩⟩
  · have : Up id ((crash kept 0 S.fs).map Fl.nm) := by rw [crash_names]; exact (up_map (k := id) Fl.nm S.fs).2 g1
    exact (up_map (k := id) Fl.nm _).1 this
  · obtain ⟨f, hf, j, rfl⟩ := crash_mem kept S.fs 0 x hx
    exact g2 f hf
  · obtain ⟨f, hf, j, rfl⟩ := crash_mem kept S.fs 0 x hx
    have := stays_le kept j (g3 f hf)
    simp only [crash1, List.length_take]
    omega
  · have := crash_total kept S.fs 0
    simp only [crS]
    omega

theorem crash_take_succ {kept : List Int} {l : List Fl} {i : Nat} {f : Fl} (hf : l[i]? = some f) : crash kept 0 (l.take (i + 1)) = crash kept 0 (l.take i) ++ [crash1 kept i f] := by
  have hi : i < l.length := (List.getElem?_eq_some_iff.1 hf).1
  rw [List.take_add_one, hf, crash_append, List.length_take, Nat.min_eq_left (by omega)]
  simp [crash, crash1]

set_option maxHeartbeats 4000000 in
theorem refcrash_any {B qb : Nat} {lv : Value} {S : St} {w : World} {ka : Option Addr} {kc : Nat} {kept : List Int} (h : Rf B w qb lv S) (hk : Vals w ka (kept.map (Value.int .i64))) (hkr : ∀ y ∈ kept, -9223372036854775808 ≤ y ∧ y ≤ 9223372036854775807) (hkl : kept.length ≤ 9223372036854775807) (hcs : S.fs.length < 1000000000) :
    Calls Try.prog 22 #[.pointer (some ⟨qb, 0, none⟩), .slice ka kept.length kc] w (RfPost B qb lv (crS S kept) (.tuple #[]) w) := by
  obtain ⟨c0, c1, c2, c3, fz⟩ := h.cells
  clear fz
  have hq := h.lt.1
  have hgo := good_crS h.good kept
  obtain ⟨a, cap, hv⟩ := files_form h.row
  subst hv
  obtain ⟨L, hL⟩ : ∃ L, L = S.fs.length := ⟨_, rfl⟩
  have hrow := h.row
  rw [← hL] at hrow c1
  have hL9 : L < 1000000000 := by omega
  obtain ⟨kl, hkl'⟩ : ∃ kl, kl = kept.length := ⟨_, rfl⟩
  rw [← hkl']
  rw [← hkl'] at hkl
  have HL := Lib.hid hL; have HR := Lib.hid hrow; have HK := Lib.hid hk; have HKR := Lib.hid hkr; have HKL := Lib.hid hkl'; have HG := Lib.hid hgo
  clear hL hrow hk hkr hkl' hgo
  go_enter Try.func22, Try.ntmps22
  go_wp2
  go_loopg [4, 5] L (fun g s it wr => ∃ (i : Nat) (u : Value), i + g = L ∧ it = .int .i64 i ∧ u = s ∧ Files wr w.heap.size u (crash kept 0 (S.fs.take i)) ∧ Below w.heap.size w wr)
  case atStart => exact ⟨0, _, by omega, rfl, rfl, World.ownsRow_nil _ _ _ _, Below.refl _ _⟩
  case round =>
    obtain ⟨i, u, hi, rfl, rfl, hown, hbw⟩ := hrel
    rw [← hbw.cell (p := ⟨qb, 1, none⟩) hq] at c1
    by_cases hlt : i < L
    · obtain ⟨f, hf⟩ : ∃ f, S.fs[i]? = some f := ⟨S.fs[i]'(by have := HL.out; omega), List.getElem?_eq_getElem _⟩
      obtain ⟨g, hg, _, hgl, d0, d1, d2⟩ := files_at HR.out hf
      subst hg
      rw [← hbw.cell (p := ⟨g, _, none⟩) hgl] at d0 d1 d2
      have hfm := List.mem_of_getElem? hf
      have hsure := h.good.sure f hfm
      have hfl := len_le h.good hfm
      have hsl := stays_le kept i hsure
      have hsz : (bs f.bt).size ≤ 1048576 := by rw [bs_size]; exact hfl
      have hszs : (f.sure : Int) ≤ ((bs f.bt).size : Int) := by rw [bs_size]; omega
      have hbz := hbw.size
      have hst : ∀ x, kept[i]? = some x → ((stays kept i f : Nat) : Int) = (f.sure : Int) + min (max x 0) (((bs f.bt).size : Int) - (f.sure : Int)) := fun x hx => by
        unfold stays
        rw [hx, bs_size]
        dsimp only
        omega
      have hst2 : kept[i]? = none → stays kept i f = f.sure := fun hx => by unfold stays; rw [hx]
      have htk := crash_take_succ (kept := kept) hf
      have hml : (crash kept 0 (S.fs.take i)).length ≤ i := by rw [crash_len]; exact List.length_take_le _ _
      obtain ⟨d, hd⟩ : ∃ d, d = stays kept i f := ⟨_, rfl⟩
      rw [← hd] at hsl
      have hc1 : crash1 kept i f = ⟨f.nm, f.bt.take d, d⟩ := by rw [hd]; rfl
      rw [hc1] at htk
      have hslice := slice_str f.bt d hsl.1
      have hdz : (bs (f.bt.take d)).size = d := by rw [bs_size, List.length_take]; omega
      have happ : ∀ W, W.heap[wr.heap.size + 1]? = some (.cells #[.string (bs f.nm), .string (bs (f.bt.take d)), .int .i64 ((bs (f.bt.take d)).size : Nat)] 50 (0, 0)) → w.heap.size ≤ W.heap.size → Files W w.heap.size u (crash kept 0 (S.fs.take i)) →
          ∃ v' w1, (∀ ty, (Builtin.append_ #[51, 51] ty #[u, .slice (some ⟨wr.heap.size + 1, 0, none⟩) 1 1]).run Try.prog W = .ok v' w1) ∧
            Files w1 w.heap.size v' (crash kept 0 (S.fs.take i) ++ [⟨f.nm, f.bt.take d, d⟩]) ∧ W.grownBy w1 u.ownBlock := fun W hblk hWs hWf => by
        obtain ⟨v', w1, q1, q2, q3, q4⟩ := run_append_files hWf (.slice (some ⟨wr.heap.size + 1, 0, none⟩) 1 1) [⟨f.nm, f.bt.take d, (bs (f.bt.take d)).size⟩] (src_one ⟨f.nm, f.bt.take d, (bs (f.bt.take d)).size⟩ _ (wr.heap.size + 1) hblk) (by simp; omega) hWs 0
        rw [hdz] at q2
        exact ⟨v', w1, fun _ => q1, q2, q3⟩
      have HST := Lib.hid hst; have HST2 := Lib.hid hst2; have HTK := Lib.hid htk; have HD := Lib.hid hd; have HDZ := Lib.hid hdz; have HAPP := Lib.hid happ; have HOWN := Lib.hid hown; have HBW := Lib.hid hbw
      clear hst hst2 htk hd hdz happ hf hc1 hown hfm
      obtain ⟨s1, s2⟩ := hsl
      have hdsz : (d : Int) ≤ ((bs f.bt).size : Int) := by rw [bs_size]; omega
      by_cases hik : i < kl
      · have hik' : i < kept.length := by rw [← HKL.out]; exact hik
        obtain ⟨b, off, hka, hkc⟩ := HK.out.at hbw (Nat.le_refl _) i (.int .i64 kept[i]) (by rw [List.getElem?_map, List.getElem?_eq_getElem hik']; rfl)
        subst hka
        have hxr := HKR.out kept[i] (List.getElem_mem hik')
        obtain ⟨x, hx⟩ : ∃ x, x = kept[i] := ⟨_, rfl⟩
        rw [← hx] at hkc hxr
        have HX := Lib.hid hx; clear hx hbw
        obtain ⟨r1, r2⟩ := hxr
        have hbl : b < wr.heap.size := World.block_lt_of_cell? _ _ hkc
        go_wp2_with fail
        go_region
        have hdx : (f.sure : Int) + min (max x 0) (((bs f.bt).size : Int) - (f.sure : Int)) = (d : Int) := by
          rw [HD.out]
          exact (HST.out x (by rw [HX.out]; exact List.getElem?_eq_getElem hik')).symm
        obtain ⟨m, hm⟩ : ∃ m, m = min (max x 0) (((bs f.bt).size : Int) - (f.sure : Int)) := ⟨_, rfl⟩
        rw [← hm] at hdx ⊢
        have m0 : 0 ≤ m := by omega
        have m1 : m ≤ 1048576 := by omega
        have hslice' : ∀ W : World, (Instr.slice 9 (.string (bs f.bt)) none (some (.int .i64 ((f.sure : Int) + m))) none).run Try.prog W = .ok (.string (bs (f.bt.take d))) W := fun W => by rw [hdx]; exact hslice W
        clear hm hdx hslice
        obtain ⟨v', w1, hrun, hown', hgrow⟩ := HAPP.out ((wr.alloc (.cells #[.string (bs f.nm), .string (bs (f.bt.take d)), .int .i64 ((bs (f.bt.take d)).size : Nat)] 50)).alloc (.cells #[.string (bs f.nm), .string (bs (f.bt.take d)), .int .i64 ((bs (f.bt.take d)).size : Nat)] 50)).drew (heap_two_new wr _ _) (by have := HBW.out.size; simp; omega) (Files.drew (Files.alloc (Files.alloc HOWN.out _) _))
        have HRUN := Lib.hid hrun; have HO' := Lib.hid hown'; have HG2 := Lib.hid hgrow
        clear hrun hown' hgrow
        go_wp2_with (first
          | (at_builtin; refine wpList_append_run _ rfl _ _ _ _ rfl _ _ rfl rfl _ _ HRUN.out ?_)
          | fail)
        go_roundg (gk - 1)
        case measure => omega
        case rel =>
          exact ⟨i + 1, _, by omega, by go_num, rfl, by rw [HTK.out]; exact HO'.out, Below.grown (((HBW.out.alloc hbz _).alloc (by simp; omega) _).drew) HG2.out (by simp; omega) (fun j hj => (HOWN.out.lt _ hj).1)⟩
      · have hdk : d = f.sure := by
          rw [HD.out]
          exact HST2.out (List.getElem?_eq_none (by have := HKL.out; omega))
        have hslice' : ∀ W : World, (Instr.slice 9 (.string (bs f.bt)) none (some (.int .i64 (f.sure : Int))) none).run Try.prog W = .ok (.string (bs (f.bt.take d))) W := fun W => by rw [← hdk]; exact hslice W
        clear hslice hbw hdk
        obtain ⟨v', w1, hrun, hown', hgrow⟩ := HAPP.out ((wr.alloc (.cells #[.string (bs f.nm), .string (bs (f.bt.take d)), .int .i64 ((bs (f.bt.take d)).size : Nat)] 50)).alloc (.cells #[.string (bs f.nm), .string (bs (f.bt.take d)), .int .i64 ((bs (f.bt.take d)).size : Nat)] 50)) (heap_two_new wr _ _) (by have := HBW.out.size; simp; omega) (Files.alloc (Files.alloc HOWN.out _) _)
        have HRUN := Lib.hid hrun; have HO' := Lib.hid hown'; have HG2 := Lib.hid hgrow
        clear hrun hown' hgrow
        go_wp2_with (first
          | (at_builtin; refine wpList_append_run _ rfl _ _ _ _ rfl _ _ rfl rfl _ _ HRUN.out ?_)
          | fail)
        go_roundg (gk - 1)
        case measure => omega
        case rel =>
          exact ⟨i + 1, _, by omega, by go_num, rfl, by rw [HTK.out]; exact HO'.out, Below.grown ((HBW.out.alloc hbz _).alloc (by simp; omega) _) HG2.out (by simp; omega) (fun j hj => (HOWN.out.lt _ hj).1)⟩
    · obtain rfl : i = L := by omega
      have hall : S.fs.take i = S.fs := List.take_of_length_le (by rw [HL.out]; exact Nat.le_refl _)
      rw [hall] at hown
      clear hall
      have hr2 : Rf B wr qb (.slice a cap cap) S → True := fun _ => trivial
      have q1 := c1
      have qf : wr.frozen? ⟨qb, 1, none⟩ = false := by rw [Below.frozen (p := ⟨qb, 1, none⟩) hbw hq]; exact h.cells.2.2.2.2 1
      have qf3 : wr.frozen? ⟨qb, 3, none⟩ = false := by rw [Below.frozen (p := ⟨qb, 3, none⟩) hbw hq]; exact h.cells.2.2.2.2 3
      have qf2 : wr.frozen? ⟨qb, 2, none⟩ = false := by rw [Below.frozen (p := ⟨qb, 2, none⟩) hbw hq]; exact h.cells.2.2.2.2 2
      have q3 : wr.cell? ⟨qb, 3, none⟩ = some (.bool S.down) := by rw [Below.cell (p := ⟨qb, 3, none⟩) hbw hq]; exact c3
      have q2 : wr.cell? ⟨qb, 2, none⟩ = some (.int .i64 S.lit) := by rw [Below.cell (p := ⟨qb, 2, none⟩) hbw hq]; exact c2
      obtain ⟨ua, uc, hu⟩ := files_form hown
      obtain ⟨M, hM⟩ : ∃ M, M = (crash kept 0 S.fs).length := ⟨_, rfl⟩
      rw [← hM] at hu
      subst hu
      have HM := Lib.hid hM; have HO := Lib.hid hown; have HBW := Lib.hid hbw
      clear hM hown hbw hr2
      go_wp2_with fail
      go_end0
      have hlt' := HO.out.lt
      have hne : ∀ g, (Value.slice ua M uc).ownBlock = some g → g ≠ qb := fun g hg e => by have := (hlt' g hg).1; omega
      have hqx : wr.heap[qb]? = some (.cells #[.int .i64 S.room, .slice a S.fs.length cap, .int .i64 S.lit, .bool S.down] 53 (0, 0)) := by rw [HBW.out.block qb hq]; exact h.blk
      have hb := heap_setCell_same _ qb 2 _ _ (.int .i64 (-1)) (heap_setCell_same _ qb 3 _ _ (.bool false) (heap_setCell_same wr qb 1 _ _ (.slice ua M uc) hqx))
      have ht : Turn (fun k => k = qb) w (((wr.setCell ⟨qb, 1, none⟩ (.slice ua M uc)).setCell ⟨qb, 3, none⟩ (.bool false)).setCell ⟨qb, 2, none⟩ (.int .i64 (-1))) :=
        (((Turn.of_below (fun k => k = qb) HBW.out (Nat.le_refl _)).trans (turn_head wr qb 1 _)).trans (turn_head _ qb 3 _)).trans (turn_head _ qb 2 _)
      refine ⟨rfl, .slice ua M uc, h.head (S' := crS S kept) ht (by rw [hb]; rfl) ?_ (fun e => hne _ e rfl) HG.out, ht, fun g hgg => Or.inr (hlt' g hgg).1⟩
      refine files_base (B := w.heap.size) ?_ h.base.2.2
      exact owns_kept HO.out (fun g hg => by
        rw [Below.heap_setCell _ _ _ _ (hne g hg), Below.heap_setCell _ _ _ _ (hne g hg), Below.heap_setCell _ _ _ _ (hne g hg)])
end Go.Proofs.Ytmpipfhlicfagaa
