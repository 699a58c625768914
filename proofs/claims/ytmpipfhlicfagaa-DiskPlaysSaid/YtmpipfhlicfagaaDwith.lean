/- The document's disk: all files but one; one more in its place. -/
import Derived.Test.YtmpipfhlicfagaaDfiles
namespace Go.Proofs.Ytmpipfhlicfagaa
open Go.RowKit
set_option linter.unusedVariables false

theorem wo_snoc (l : List Fl) (f : Fl) (n : List UInt8) : wo Fl.nm (l ++ [f]) n = if f.nm = n then wo Fl.nm l n else wo Fl.nm l n ++ [f] := by
  unfold wo
  rw [List.filter_append]
  by_cases h : f.nm = n <;> simp [h]

/-- What is behind a call that makes a row of files. -/
def FilesPost (w : World) (l : List Fl) (e : Ending) (w' : World) : Prop := ∃ v, e = .returned v ∧ Files w' w.heap.size v l ∧ Below w.heap.size w w'

set_option maxHeartbeats 1000000 in
theorem without_any {B qb : Nat} {lv : Value} {S : St} {w : World} (h : Rf B w qb lv S) (n : List UInt8) (hcs : S.fs.length < 1000000000) :
    Calls Try.prog 40 #[.pointer (some ⟨qb, 0, none⟩), .string (bs n)] w (FilesPost w (wo Fl.nm S.fs n)) := by
  obtain ⟨c0, c1, c2, c3, fz⟩ := h.cells
  clear fz
  obtain ⟨a, cap, hv⟩ := files_form h.row
  obtain ⟨L, hL⟩ : ∃ L, L = S.fs.length := ⟨_, rfl⟩
  have hrow := h.row
  have hq := h.lt.1
  rw [hv] at hrow c1
  rw [← hL] at hrow c1 hcs
  have HL := Lib.hid hL; have HR := Lib.hid hrow
  clear hL hrow hv
  go_enter Try.func40, Try.ntmps40
  go_wp2
  go_loopg [5, 6] L (fun g s it wr => ∃ (i : Nat) (u : Value), i + g = L ∧ it = .int .i64 i ∧ u = s ∧ Files wr w.heap.size u (wo Fl.nm (S.fs.take i) n) ∧ Below w.heap.size w wr)
  case atStart => exact ⟨0, _, by omega, rfl, rfl, World.ownsRow_nil _ _ _ _, Below.refl _ _⟩
  case round =>
    obtain ⟨i, u, hi, rfl, rfl, hown, hbw⟩ := hrel
    rw [← hbw.cell (p := ⟨qb, 1, none⟩) hq] at c1
    by_cases hlt : i < L
    · obtain ⟨f, hf⟩ : ∃ f, S.fs[i]? = some f := ⟨S.fs[i]'(by have := HL.out; omega), List.getElem?_eq_getElem _⟩
      obtain ⟨g, hg, _, hgl, d0, d1, d2⟩ := files_at HR.out hf
      subst hg
      rw [← hbw.cell (p := ⟨g, _, none⟩) hgl] at d0 d1 d2
      have htk : wo Fl.nm (S.fs.take (i + 1)) n = if f.nm = n then wo Fl.nm (S.fs.take i) n else wo Fl.nm (S.fs.take i) n ++ [f] := by rw [List.take_add_one, hf]; exact wo_snoc _ _ _
      have hml : (wo Fl.nm (S.fs.take i) n).length ≤ i := Nat.le_trans (length_wo _ _) (List.length_take_le _ _)
      have hbz := hbw.size
      have HBW := Lib.hid hbw
      clear hf
      by_cases hn : f.nm = n
      · have heq : ((bs f.nm).toList == (bs n).toList) = true := by rw [bs_toList, bs_toList, hn]; simp
        rw [if_pos hn] at htk
        have HT := Lib.hid htk; have HO := Lib.hid hown; clear htk hown hn
        go_wp2
        go_roundg (gk - 1)
        case measure => omega
        case rel => exact ⟨i + 1, _, by omega, by go_num, rfl, by rw [HT.out]; exact HO.out, hbw⟩
      · have heq : ((bs f.nm).toList == (bs n).toList) = false := by rw [bs_toList, bs_toList]; simpa using hn
        rw [if_neg hn] at htk
        have HT := Lib.hid htk; clear htk hn
        obtain ⟨v', w1, hrun, hown', hgrow, hloc⟩ : ∃ v' w1, (∀ ty, (Builtin.append_ #[51, 51] ty #[u, .slice (some ⟨wr.heap.size, 0, none⟩) 1 1]).run Try.prog (wr.alloc (.cells #[.string (bs f.nm), .string (bs f.bt), .int .i64 f.sure] 50)) = .ok v' w1) ∧
            Files w1 w.heap.size v' (wo Fl.nm (S.fs.take i) n ++ [f]) ∧ (wr.alloc (.cells #[.string (bs f.nm), .string (bs f.bt), .int .i64 f.sure] 50)).grownBy w1 u.ownBlock ∧ True := by
          obtain ⟨v', w1, q1, q2, q3, q4⟩ := run_append_files (hown.alloc (.cells #[.string (bs f.nm), .string (bs f.bt), .int .i64 f.sure] 50)) (.slice (some ⟨wr.heap.size, 0, none⟩) 1 1) [f] (src_one f _ wr.heap.size (heap_alloc_new wr _)) (by simp; omega) (by simp; omega) 0
          exact ⟨v', w1, fun _ => q1, q2, q3, trivial⟩
        have HO := Lib.hid hown; have HRUN := Lib.hid hrun; have HO' := Lib.hid hown'; have HG := Lib.hid hgrow
        clear hown hrun hown' hgrow
        go_wp2_with (first
          | (at_builtin; refine wpList_append_run _ rfl _ _ _ _ rfl _ _ rfl rfl _ _ HRUN.out ?_)
          | fail)
        go_roundg (gk - 1)
        case measure => omega
        case rel =>
          refine ⟨i + 1, _, by omega, by go_num, rfl, by rw [HT.out]; exact HO'.out, Below.grown (HBW.out.alloc hbz _) HG.out (by simp; omega) (fun j hj => (HO.out.lt _ hj).1)⟩
    · obtain rfl : i = L := by omega
      have hall : S.fs.take i = S.fs := List.take_of_length_le (by rw [HL.out]; exact Nat.le_refl _)
      rw [hall] at hown
      clear hall
      obtain ⟨ua, uc, hu⟩ := files_form hown
      obtain ⟨M, hM⟩ : ∃ M, M = (wo Fl.nm S.fs n).length := ⟨_, rfl⟩
      rw [← hM] at hu
      subst hu
      have HO := Lib.hid hown; clear hown hM
      go_wp2
      go_ret
      exact ⟨.slice ua M uc, rfl, HO.out, hbw⟩

/-- An append of files as one step of a region that draws its order. -/
theorem step_append_files {ops : Array Oper} {o : Oper} {a : Act} {w : World} {K : Act → World → Prop} {Q : Exit → Act → World → Prop} {E : Prop} (hgd : o.guard = none) (s x : Operand)
    (ho : o.op = .call { callee := .builtin .append, args := #[s, x], argTypes := #[51, 51] }) (B : Nat) (v : Value) (l : List Fl) (hs : a.eval s = v) (hown : Files w B v l) (xv : Value) (b : List Fl) (hx : a.eval x = xv)
    (hsrc : Src Try.prog 3 51 xv b.length (flat b) w) (hb : l.length + b.length ≤ 1099511627776) (hB : B ≤ w.heap.size)
    (h : ∀ a' n' c' w', Files w' B (.slice a' n' c') (l ++ b) → Below B w w' → w.grownBy w' v.ownBlock → K (a.put o.dst (.slice a' n' c')) w') :
    if Region.wanted o (yielded ops a.tmps) = true then Oper.wp Try.prog o a w K Q else E := by
  have hw : Region.wanted o (yielded ops a.tmps) = true := by simp [Region.wanted, hgd]
  rw [if_pos hw]
  obtain ⟨v', w', q1, q2, q3, q4⟩ := run_append_files hown xv b hsrc hb hB o.type
  obtain ⟨a', c', rfl⟩ := files_form q2
  unfold Oper.wp execOp
  simp only [ho, resolve, invoke, builtin, Sem.run_bind, Sem.run_pure, Result.andThen_ok, List.map_toArray, List.map_cons, List.map_nil, hs, hx, q1]
  exact h a' _ c' w' q2 ((Below.refl B w).grown q3 hB (fun k hk => (hown.lt k hk).1)) q3

theorem Files.alloc {w : World} {B : Nat} {v : Value} {l : List Fl} (h : Files w B v l) (o : Obj) : Files (w.alloc o) B v l := World.ownsRow.alloc h o
theorem files_base {w : World} {B B' : Nat} {v : Value} {l : List Fl} (h : Files w B v l) (hB : B' ≤ B) : Files w B' v l := by
  obtain ⟨h1, h2⟩ := h
  refine ⟨h1, h2.imp id ?_⟩
  rintro ⟨g, cap, cur, hv, hb, r⟩
  exact ⟨g, cap, cur, hv, Nat.le_trans hB hb, r⟩
theorem Files.drew {w : World} {B : Nat} {v : Value} {l : List Fl} (h : Files w B v l) : Files w.drew B v l := h
theorem files_empty {w : World} {B b : Nat} (hB : B ≤ b) (hb : w.heap[b]? = some (.cells #[] 50 (0, 0))) : Files w B (.slice (some ⟨b, 0, none⟩) 0 0) [] :=
  ⟨rfl, Or.inr ⟨b, 0, #[], rfl, hB, hb, Nat.le_refl _, by unfold maxLen; omega, rfl, rfl⟩⟩
theorem heap_two_new (w : World) (o1 o2 : Obj) : ((w.alloc o1).alloc o2).heap[w.heap.size + 1]? = some o2 := by
  have := heap_alloc_new (w.alloc o1) o2
  simpa using this
theorem heap_two_old (w : World) (o1 o2 : Obj) : ((w.alloc o1).alloc o2).heap[w.heap.size]? = some o1 := by
  rw [Below.heap_alloc _ _ _ (by simp)]
  exact heap_alloc_new w o1

/-- What was there when the call had laid its file is as it was. -/
def Old (w1 W : World) : Prop := Below w1.heap.size w1 W
theorem Old.refl (w1 : World) : Old w1 w1 := Below.refl _ _
theorem Old.alloc {w1 W : World} (h : Old w1 W) (o : Obj) : Old w1 (W.alloc o) := Below.alloc h h.size o
theorem Old.drew {w1 W : World} (h : Old w1 W) : Old w1 W.drew := Below.drew h
theorem Old.drewN {w1 W : World} (h : Old w1 W) (q : Nat) : Old w1 (W.drewN q) := ⟨h.os, h.tape, h.output, h.size, h.block⟩
theorem Old.below {w1 W W' : World} (h : Old w1 W) (k : Below w1.heap.size W W') : Old w1 W' := Below.trans h k

/-- How many files stand ahead. -/
theorem pos_step {l : List Fl} {n : List UInt8} {i : Nat} {f : Fl} (hi : l[i]? = some f) (hu : Up Fl.nm l) : (i < pos Fl.nm l n ↔ lt f.nm n = true ∧ i ≤ pos Fl.nm l n) := by
  constructor
  · intro h
    exact ⟨pos_before (k := Fl.nm) h hi, by omega⟩
  · rintro ⟨h1, h2⟩
    rcases Nat.lt_or_ge i (pos Fl.nm l n) with h | h
    · exact h
    · have := pos_behind (k := Fl.nm) hu h hi
      rw [h1] at this; cases this

set_option maxHeartbeats 2000000 in
theorem with_any {B : Nat} {lv : Value} {l : List Fl} {w : World} (h : Files w B lv l) (f : Fl) (hu : Up Fl.nm l) (hcs : l.length < 1000000000) :
    Calls Try.prog 39 #[lv, .agg #[.string (bs f.nm), .string (bs f.bt), .int .i64 f.sure]] w (FilesPost w (ins Fl.nm l f)) := by
  have hat := ins_at (k := Fl.nm) l f
  have hple := pos_le (k := Fl.nm) l f.nm
  obtain ⟨p, hp⟩ : ∃ p, p = pos Fl.nm l f.nm := ⟨_, rfl⟩
  rw [← hp] at hat hple
  rw [hat]
  obtain ⟨la, lc, hlv, hlc, hcut, ⟨A, c, htail, hsrc2⟩, hsrc1⟩ := src_piece h p hple
  obtain ⟨L, hL⟩ : ∃ L, L = l.length := ⟨_, rfl⟩
  rw [← hL] at hlv hlc htail hsrc2 hple hcs
  have hrow := h
  have hlt := h.lt
  subst hlv
  have HL := Lib.hid hL; have HR := Lib.hid hrow; have HP := Lib.hid hp; have HU := Lib.hid hu; have HS1 := Lib.hid hsrc1; have HS2 := Lib.hid hsrc2; have HLT := Lib.hid hlt
  clear hL hrow hp hu hsrc1 hsrc2 hlt hat h
  go_enter Try.func39, Try.ntmps39
  go_wp2
  go_loopg [5] p (fun g it wr => ∃ (i : Nat) (q : Nat), i + g = p ∧ it = .int .i64 i ∧ wr = (w.alloc (.cells #[.string (bs f.nm), .string (bs f.bt), .int .i64 f.sure] 50)).drewN q)
  case atStart => exact ⟨0, 0, by omega, rfl, rfl⟩
  case round =>
    obtain ⟨i, q, hi, rfl, rfl⟩ := hrel
    by_cases hiL : i < L
    · obtain ⟨x, hx⟩ : ∃ x, l[i]? = some x := ⟨l[i]'(by have := HL.out; omega), List.getElem?_eq_getElem _⟩
      obtain ⟨g, hg, _, hgl, d0, d1, d2⟩ := files_at HR.out hx
      subst hg
      have e0 : (w.alloc (.cells #[.string (bs f.nm), .string (bs f.bt), .int .i64 f.sure] 50)).cell? ⟨g, i * 3, none⟩ = some (.string (bs x.nm)) := by
        rw [World.cell?_of_block (w := w) (Below.heap_alloc _ _ _ hgl)]; exact d0
      by_cases hip : i < p
      · have hlt : lt x.nm f.nm = true := pos_before (k := Fl.nm) (by rw [← HP.out]; exact hip) hx
        have hbl : Op.bytesLess (bs x.nm).toList (bs f.nm).toList = true := by rw [bs_toList, bs_toList]; exact hlt
        have HX := Lib.hid hx; clear hx hlt d0 d1 d2
        go_wp2
        go_quiet (fail)
        go_wp2
        go_roundg (gk - 1)
        case measure => omega
        case rel => exact ⟨i + 1, _, by omega, by go_num, rfl⟩
      · obtain rfl : i = p := by omega
        have hlt : lt x.nm f.nm = false := pos_behind (k := Fl.nm) HU.out (by rw [← HP.out]; exact Nat.le_refl _) hx
        have hbl : Op.bytesLess (bs x.nm).toList (bs f.nm).toList = false := by rw [bs_toList, bs_toList]; exact hlt
        have HX := Lib.hid hx; clear hx hlt d0 d1 d2
        go_wp2
        go_quiet (fail)
        go_wp2
        generalize hW2 : World.drewN _ _ = W2
        have K0 : Old (w.alloc (.cells #[.string (bs f.nm), .string (bs f.bt), .int .i64 f.sure] 50)) W2 := by rw [← hW2]; exact ((Old.refl _).drewN _).drewN _
        clear hW2 e0
        generalize hW1 : w.alloc _ = w1 at K0
        have bw : w1.heap[w.heap.size]? = some (.cells #[.string (bs f.nm), .string (bs f.bt), .int .i64 f.sure] 50 (0, 0)) := by rw [← hW1]; exact heap_alloc_new w _
        have hsz1 : w1.heap.size = w.heap.size + 1 := by rw [← hW1]; simp
        have hA0 : ∀ W, Old w1 W → W.cell? ⟨w.heap.size, 0, none⟩ = some (.string (bs f.nm)) := fun W hW => by rw [Below.cell (p := ⟨w.heap.size, 0, none⟩) hW (by show w.heap.size < _; omega), cell_of_row w1 _ 0 _ _ (0, 0) bw]; rfl
        have hA1 : ∀ W, Old w1 W → W.cell? ⟨w.heap.size, 1, none⟩ = some (.string (bs f.bt)) := fun W hW => by rw [Below.cell (p := ⟨w.heap.size, 1, none⟩) hW (by show w.heap.size < _; omega), cell_of_row w1 _ 1 _ _ (0, 0) bw]; rfl
        have hA2 : ∀ W, Old w1 W → W.cell? ⟨w.heap.size, 2, none⟩ = some (.int .i64 f.sure) := fun W hW => by rw [Below.cell (p := ⟨w.heap.size, 2, none⟩) hW (by show w.heap.size < _; omega), cell_of_row w1 _ 2 _ _ (0, 0) bw]; rfl
        have HB1 : Hid (Below w.heap.size w w1) := Lib.hid (by rw [← hW1]; exact (Below.refl _ _).alloc (Nat.le_refl _) _)
        have HOW : Hid (∀ W, Old w1 W → ∀ k, (Value.slice (some ⟨g, 0, none⟩) L lc).ownBlock = some k → W.heap[k]? = w.heap[k]?) := Lib.hid (fun W hW k hk => by
          have hkl := (HLT.out k hk).2
          rw [hW.block k (by omega), ← hW1, Below.heap_alloc _ _ _ hkl])
        clear hW1 bw
        have hlw : ∀ W, Old w1 W → ∀ k, (Value.slice (some ⟨g, 0, none⟩) L lc).ownBlock = some k → W.heap[k]? = w.heap[k]? := HOW.out
        have HLW := Lib.hid hlw
        have hz2 : w1.heap.size ≤ W2.heap.size := K0.size
        have hl9 : l.length ≤ 1000000000 := by have := HL.out; omega
        clear hlw HOW
        go_region_held3 (fun W => Old w1 W) (first | assumption | exact K0 | exact K0.drew | exact Old.drew ‹_› | exact Old.alloc ‹_› _ | exact (K0.alloc _).drew | exact ((K0.alloc _).alloc _).drew)
          (first
            | (refine step_append_files rfl (.tmp 22) (.tmp 25) (by rfl) w1.heap.size _ [] (by rfl) (files_empty (by omega) (by first | exact heap_alloc_new _ _ | exact heap_two_new _ _ _ | exact heap_two_old _ _ _)) _ (l.take i) (by rfl) (HS1.out _ (HLW.out _ (by assumption))) (by rw [List.length_take, List.length_nil]; omega) (by simp; omega) ?_
               intro a3 n3 c3 w3 hf3 hb3 hg3
               have hO3 : Old w1 w3 := Old.below (by assumption) hb3)
            | (refine step_append_files rfl (.tmp 26) (.tmp 28) (by rfl) w1.heap.size _ ([] ++ l.take i) (by rfl) (by first | exact hf3 | exact hf3.drew | exact hf3.alloc _ | exact (hf3.alloc _).drew) _ [f] (by rfl)
                (src_one f _ _ (by first | exact heap_alloc_new _ _ | exact (hg3.block _ (by first | (simp; done) | (simp; omega)) (by first | (simp [Value.ownBlock]; done) | (simp [Value.ownBlock]; omega))).trans (heap_two_new _ _ _) | exact (hg3.block _ (by first | (simp; done) | (simp; omega)) (by first | (simp [Value.ownBlock]; done) | (simp [Value.ownBlock]; omega))).trans (heap_two_old _ _ _))) (by simp; omega) (by have := hO3.size; simp; omega) ?_
               intro a4 n4 c4 w4 hf4 hb4 hg4
               have hO4 : Old w1 w4 := Old.below (by assumption) hb4)
            | (refine step_append_files rfl (.tmp 29) (.tmp 32) (by rfl) w1.heap.size _ ([] ++ l.take i ++ [f]) (by rfl) (by first | exact hf4 | exact hf4.drew) _ (l.drop i) (by rfl) (HS2.out _ (HLW.out _ (by assumption))) (by simp; omega) (by have := hO4.size; simp; omega) ?_
               intro a5 n5 c5 w5 hf5 hb5 hg5
               have hO5 : Old w1 w5 := Old.below (by assumption) hb5))
        all_goals
          go_wp2
          go_ret
          exact ⟨.slice a5 n5 c5, rfl, files_base hf5 (by omega), HB1.out.trans (hO5.mono (by omega))⟩
    · obtain rfl : i = p := by omega
      obtain rfl : i = L := by omega
      rw [Nat.sub_self] at htail
      have hs2' := HS2.out
      rw [Nat.sub_self] at hs2'
      have HS2' := Lib.hid hs2'
      clear hs2' HS2
      go_wp2
      go_quiet (fail)
      go_wp2
      generalize hW2 : World.drewN _ _ = W2
      have K0 : Old (w.alloc (.cells #[.string (bs f.nm), .string (bs f.bt), .int .i64 f.sure] 50)) W2 := by rw [← hW2]; exact ((Old.refl _).drewN _).drewN _
      clear hW2
      generalize hW1 : w.alloc _ = w1 at K0
      have bw : w1.heap[w.heap.size]? = some (.cells #[.string (bs f.nm), .string (bs f.bt), .int .i64 f.sure] 50 (0, 0)) := by rw [← hW1]; exact heap_alloc_new w _
      have hsz1 : w1.heap.size = w.heap.size + 1 := by rw [← hW1]; simp
      have hA0 : ∀ W, Old w1 W → W.cell? ⟨w.heap.size, 0, none⟩ = some (.string (bs f.nm)) := fun W hW => by rw [Below.cell (p := ⟨w.heap.size, 0, none⟩) hW (by show w.heap.size < _; omega), cell_of_row w1 _ 0 _ _ (0, 0) bw]; rfl
      have hA1 : ∀ W, Old w1 W → W.cell? ⟨w.heap.size, 1, none⟩ = some (.string (bs f.bt)) := fun W hW => by rw [Below.cell (p := ⟨w.heap.size, 1, none⟩) hW (by show w.heap.size < _; omega), cell_of_row w1 _ 1 _ _ (0, 0) bw]; rfl
      have hA2 : ∀ W, Old w1 W → W.cell? ⟨w.heap.size, 2, none⟩ = some (.int .i64 f.sure) := fun W hW => by rw [Below.cell (p := ⟨w.heap.size, 2, none⟩) hW (by show w.heap.size < _; omega), cell_of_row w1 _ 2 _ _ (0, 0) bw]; rfl
      have HB1 : Hid (Below w.heap.size w w1) := Lib.hid (by rw [← hW1]; exact (Below.refl _ _).alloc (Nat.le_refl _) _)
      have HOW : Hid (∀ W, Old w1 W → ∀ k, (Value.slice la i lc).ownBlock = some k → W.heap[k]? = w.heap[k]?) := Lib.hid (fun W hW k hk => by
        have hkl := (HLT.out k hk).2
        rw [hW.block k (by omega), ← hW1, Below.heap_alloc _ _ _ hkl])
      clear hW1 bw
      have hlw : ∀ W, Old w1 W → ∀ k, (Value.slice la i lc).ownBlock = some k → W.heap[k]? = w.heap[k]? := HOW.out
      have HLW := Lib.hid hlw
      have hz2 : w1.heap.size ≤ W2.heap.size := K0.size
      have hl9 : l.length ≤ 1000000000 := by have := HL.out; omega
      clear hlw HOW
      go_region_held3 (fun W => Old w1 W) (first | assumption | exact K0 | exact K0.drew | exact Old.drew ‹_› | exact Old.alloc ‹_› _ | exact (K0.alloc _).drew | exact ((K0.alloc _).alloc _).drew)
        (first
          | (refine step_append_files rfl (.tmp 22) (.tmp 25) (by rfl) w1.heap.size _ [] (by rfl) (files_empty (by omega) (by first | exact heap_alloc_new _ _ | exact heap_two_new _ _ _ | exact heap_two_old _ _ _)) _ (l.take i) (by rfl) (HS1.out _ (HLW.out _ (by assumption))) (by rw [List.length_take, List.length_nil]; omega) (by simp; omega) ?_
             intro a3 n3 c3 w3 hf3 hb3 hg3
             have hO3 : Old w1 w3 := Old.below (by assumption) hb3)
          | (refine step_append_files rfl (.tmp 26) (.tmp 28) (by rfl) w1.heap.size _ ([] ++ l.take i) (by rfl) (by first | exact hf3 | exact hf3.drew | exact hf3.alloc _ | exact (hf3.alloc _).drew) _ [f] (by rfl)
              (src_one f _ _ (by first | exact heap_alloc_new _ _ | exact (hg3.block _ (by first | (simp; done) | (simp; omega)) (by first | (simp [Value.ownBlock]; done) | (simp [Value.ownBlock]; omega))).trans (heap_two_new _ _ _) | exact (hg3.block _ (by first | (simp; done) | (simp; omega)) (by first | (simp [Value.ownBlock]; done) | (simp [Value.ownBlock]; omega))).trans (heap_two_old _ _ _))) (by simp; omega) (by have := hO3.size; simp; omega) ?_
             intro a4 n4 c4 w4 hf4 hb4 hg4
             have hO4 : Old w1 w4 := Old.below (by assumption) hb4)
          | (refine step_append_files rfl (.tmp 29) (.tmp 32) (by rfl) w1.heap.size _ ([] ++ l.take i ++ [f]) (by rfl) (by first | exact hf4 | exact hf4.drew) _ (l.drop i) (by rfl) (HS2'.out _ (HLW.out _ (by assumption))) (by simp; omega) (by have := hO4.size; simp; omega) ?_
             intro a5 n5 c5 w5 hf5 hb5 hg5
             have hO5 : Old w1 w5 := Old.below (by assumption) hb5))
      all_goals
        go_wp2
        go_ret
        exact ⟨.slice a5 n5 c5, rfl, files_base hf5 (by omega), HB1.out.trans (hO5.mono (by omega))⟩
end Go.Proofs.Ytmpipfhlicfagaa
