/- The library's Clone and Chunk, of records. -/
import Derived.Test.YtfcfleeiffmjdaaGpcomb
import Derived.RangeFuncNested
import Derived.RangeFuncBound
import Derived.RangeFuncCalls
import Derived.RangeFuncLeaves
import Derived.Shelf.Abstract
import Derived.Shelf.RegionOpen
import Derived.OwnWalkIn
import Derived.TacticsInMore
import Derived.LoopNIn
import Derived.LoopIn
import Derived.Maps.AppendAt
import Derived.Lib.SliceRun
import Derived.Sort.QuietIn
namespace Go.Proofs.Ytfcfleeiffmjdaa.G
open Go.RowKit Go.Shelf
set_option linter.unusedVariables false
set_option linter.unusedSimpArgs false
attribute [local go_sem] Oper.semAt_some

/-- A piece of records as a source. -/
theorem src_piece {w : World} {A : Addr} {l : List Rc} {c : Nat} (h : Recs w (some A) l) : Src Try.prog 4 25 (.slice (some A) l.length c) l.length (flat l) w := by
  refine Src.ofSlice w Try.underlying25 A l.length c (flat l) (by rw [flat_len]) (fun j u hu => ?_) (flat_one l)
  obtain ⟨hj, e⟩ := List.getElem?_eq_some_iff.1 hu
  rw [flat_len] at hj
  have hi : j / 4 < l.length := by omega
  obtain ⟨b, off, e1, h2, h3⟩ := h (by omega)
  cases e1
  obtain ⟨p0, p1, p2, p3⟩ := h3 (j / 4) hi
  obtain ⟨q0, q1, q2, q3⟩ := flat_get l (j / 4) hi
  rw [Addr.add_lit]
  rcases (by omega : j % 4 = 0 ∨ j % 4 = 1 ∨ j % 4 = 2 ∨ j % 4 = 3) with hr | hr | hr | hr
  · rw [show off + j = off + j / 4 * 4 by omega, p0, ← hu, ← q0]; congr 1; omega
  · rw [show off + j = off + j / 4 * 4 + 1 by omega, p1, ← hu, ← q1]; congr 1; omega
  · rw [show off + j = off + j / 4 * 4 + 2 by omega, p2, ← hu, ← q2]; congr 1; omega
  · rw [show off + j = off + j / 4 * 4 + 3 by omega, p3, ← hu, ← q3]; congr 1; omega
set_option maxHeartbeats 1000000 in
theorem pclone_any {A : Addr} {l : List Rc} {c : Nat} {w : World} (h : Recs w (some A) l) (hl : l.length ≤ 1000000) :
    Calls Try.prog 27 #[.slice (some A) l.length c] w (RecsPost w l) := by
  obtain ⟨i0, hi0, hz0, hz1, hz2⟩ := info_parts infoRec
  have HI := Lib.hid (And.intro hi0 (And.intro hz0 (And.intro hz1 hz2)))
  have hb1 : Below w.heap.size w (w.alloc (.cells #[] 35)) := (Below.refl w.heap.size w).alloc (Nat.le_refl _) _
  have hsrc := src_piece (c := c) (h.later hb1 (Nat.le_refl _))
  have hown := none_row (Nat.le_refl _) (heap_alloc_new w (.cells #[] 35))
  have HS := Lib.hid hsrc; have HW := Lib.hid hown; have HB := Lib.hid hb1
  clear hsrc hown hb1 h hi0 hz0 hz1 hz2
  have q24 : ∀ (w : World) (a : Option Addr) (n c n' c' : Nat), (binOp .eql 25 (.slice a n c) (.slice none n' c')).run Try.prog w = .ok (.bool a.isNone) w := fun w a n c n' c' => Lib.run_eql_slice_nil w _ _ a n c n' c' Try.underlying25
  go_enter Try.func27, Try.ntmps27
  go_wp2_with (at_builtin; refine wpList_append_row _ rfl _ _ 25 rfl w.heap.size 35 i0 _ 4 48 Try.underlying25 HI.out.1 HI.out.2.1 HI.out.2.2.1 HI.out.2.2.2 (by omega) rfl (.slice (some ⟨w.heap.size, 0, none⟩) 0 0) 0 [] rfl HW.out (.slice (some A) l.length c) l.length _ rfl HS.out (by omega) (by rw [World.size_alloc]; omega) ?_; intro a' c' w3 h3 hg3 _; have H3 := Lib.hid h3; have HG3 := Lib.hid hg3; clear h3 hg3)
  go_ret
  have h3 := H3.out
  rw [Nat.zero_add, List.nil_append] at h3
  refine ⟨_, rfl, by unfold Rw; simpa using h3, Below.grown HB.out HG3.out (by rw [World.size_alloc]; omega) (fun j hj => ?_)⟩
  have : w.heap.size = j := by simpa [Value.ownBlock] using hj
  omega
theorem pchunk_any (a : Option Addr) (n nc : Nat) (w : World) : Calls Try.prog 26 #[.slice a n nc, .int .i64 16] w fun e w' =>
    e = .returned (.func (.func 33) #[] #[.pointer (some ⟨w.heap.size, 0, none⟩), .pointer (some ⟨w.heap.size + 1, 0, none⟩)]) ∧ w' = (w.alloc (.cells #[.slice a n nc] 25)).alloc (.cells #[.int .i64 16] 3) := by
  have hmf : ∀ (fn : Fn) (first cap : Array Value) (w : World), (Instr.makeFunc fn first cap).run Try.prog w = .ok (.func fn first cap) w := fun _ _ _ _ => rfl
  go_enter Try.func26, Try.ntmps26
  go_wp2_with fail
  go_ret
  exact ⟨rfl, rfl⟩

/-! ### the walk over pieces -/
/-- The iterator's two blocks stay. -/
def KpC (bx bn : Nat) (W W' : World) : Prop := ∀ k, (k = bx ∨ k = bn) → ∀ cs t z, W.heap[k]? = some (Obj.cells cs t z) → W'.heap[k]? = some (Obj.cells cs t z)
theorem KpC.trans {bx bn : Nat} {A B C : World} (h : KpC bx bn A B) (k : KpC bx bn B C) : KpC bx bn A C := fun i hi cs t z e => k i hi cs t z (h i hi cs t z e)
theorem KpC.put {bx bn : Nat} (W : World) (l : Nat) (o o' : Obj) (ho : W.heap[l]? = some o) (h1 : o.isCells = false) : KpC bx bn W (W.putObj l o') := fun k hk cs t z e => by
  have hne : k ≠ l := fun hkl => by
    subst hkl
    rw [ho] at e
    cases e
    cases h1
  rw [World.putObj_heap_other hne]; exact e
/-- A piece as it is handed over. -/
def encC (l : List Rc) (b off : Nat) (x : Fin (bat l).length) : Array Value := #[.slice (some ⟨b, off + 64 * x.1, none⟩) (bat l)[x.1].length (bat l)[x.1].length]
theorem bat_piece {l : List Rc} {i : Nat} (h : i < (bat l).length) : (bat l)[i].length = min 16 (l.length - 16 * i) := by rw [bat_at l i h, List.length_take, List.length_drop]
theorem bat_in {l : List Rc} {i : Nat} : i < (bat l).length ↔ 16 * i < l.length := by rw [bat_len]; omega
theorem sub_slice (a : Option Addr) (n cap i : Nat) (hi : i ≤ n) (hn : n ≤ cap) : ∃ A, ∀ W, (Instr.slice 25 (.slice a n cap) (some (.int .i64 (i : Int))) none none).run Try.prog W = .ok (.slice A (n - i) (cap - i)) W := by
  have hsz : ∀ W : World, (Go.sizeOf (Try.prog.elem 25)).run Try.prog W = .ok 4 W := fun W => by kernel_rfl
  refine ⟨if cap = i then a else a.map (·.add (i * 4)), fun W => ?_⟩
  rw [run_slice_l (P := Try.prog) (t := 25) (ht := by kernel_rfl) (kl := .i64) (l := (i : Int)) (h0 := by omega) (h1 := by omega), hsz]
  simp only [Result.andThen, sliced, Int.toNat_natCast]
theorem cut_slice (b off n cap i k : Nat) (h1 : 1 ≤ k) (h2 : i + k ≤ cap) (W : World) : (Instr.slice 25 (.slice (some ⟨b, off, none⟩) n cap) (some (.int .i64 (i : Int))) (some (.int .i64 ((i + k : Nat) : Int))) (some (.int .i64 ((i + k : Nat) : Int)))).run Try.prog W = .ok (.slice (some ⟨b, off + 4 * i, none⟩) k k) W := by
  have hsz : ∀ W : World, (Go.sizeOf (Try.prog.elem 25)).run Try.prog W = .ok 4 W := fun W => by kernel_rfl
  rw [run_slice_lhm (P := Try.prog) (t := 25) (ht := by kernel_rfl) (kl := .i64) (kh := .i64) (km := .i64) (l := (i : Int)) (h := ((i + k : Nat) : Int)) (m := ((i + k : Nat) : Int)) (h0 := by omega) (h1 := by omega) (h2 := by omega) (h3 := by omega), hsz]
  simp only [Result.andThen, sliced, Int.toNat_natCast]
  rw [if_neg (by omega), Nat.add_sub_cancel_left, Option.map_some, Addr.add_lit, Nat.mul_comm]

set_option maxRecDepth 100000 in
set_option maxHeartbeats 1000000 in
theorem cwalk_any {l : List Rc} {a : Option Addr} {cap b off : Nat} (ha : 0 < l.length → a = some ⟨b, off, none⟩) (hl : l.length ≤ 1000000) (hcap : l.length ≤ cap) (bx bn : Nat) (Kp : World → World → Prop) (hKp : ∀ W W', Kp W W' → KpC bx bn W W')
    (lp : Nat) (J Jx : List (Fin (bat l).length) → World → Prop) (W : World)
    (hY : ∀ pre x W1, J pre W1 → pre.length < (List.finRange (bat l).length).length → YieldAt Fence.wide (9 - 1) Try.prog lp (encC l b off x) W1 fun e W' =>
      (e = .returned (.bool true) ∧ J (pre ++ [x]) W' ∧ Kp W1 W') ∨ (e = .returned (.bool false) ∧ Jx (pre ++ [x]) W'))
    (hJd : ∀ s A q, J s A → J s (World.drewN A q)) (h0 : J [] W) (hbx : W.heap[bx]? = some (.cells #[.slice a l.length cap] 25 (0, 0))) (hbn : W.heap[bn]? = some (.cells #[.int .i64 16] 3 (0, 0))) :
    CallsIn Fence.wide 9 Try.prog 33 (#[.func (.yield lp) #[] #[]] ++ #[.pointer (some ⟨bx, 0, none⟩), .pointer (some ⟨bn, 0, none⟩)]) W fun e W' => (∃ v, e = .returned v) ∧ ((∃ xs, xs = List.finRange (bat l).length ∧ J xs W') ∨ (∃ pre, pre <+: List.finRange (bat l).length ∧ Jx pre W')) := by
  obtain ⟨E, hE⟩ : ∃ E, E = List.finRange (bat l).length := ⟨_, rfl⟩
  rw [← hE] at hY ⊢
  have hel : E.length = (bat l).length := by rw [hE, List.length_finRange]
  have HAT : Hid (∀ q, 16 * q < l.length → ∃ x, E[q]? = some x ∧ a = some ⟨b, off, none⟩ ∧ ∃ k, 1 ≤ k ∧ k ≤ 16 ∧ k = min 16 (l.length - 16 * q) ∧ encC l b off x = #[.slice (some ⟨b, off + 4 * (16 * q), none⟩) k k]) := Lib.hid (fun q hq => by
    have hqb := bat_in.2 hq
    refine ⟨⟨q, hqb⟩, by rw [hE, List.getElem?_eq_getElem (by rw [List.length_finRange]; exact hqb)]; simp, ha (by omega), _, ?_, ?_, rfl, ?_⟩
    · omega
    · omega
    · unfold encC
      simp only [bat_piece hqb]
      rw [show 64 * q = 4 * (16 * q) by omega])
  have hEN : Hid (∀ q, l.length ≤ 16 * q → E.take q = E) := Lib.hid (fun q hq => List.take_of_length_le (by rw [hel, bat_len]; omega))
  have hEL : Hid (∀ q, 16 * q < l.length → (E.take q).length < E.length) := Lib.hid (fun q hq => by have := bat_in.2 hq; rw [List.length_take, hel]; omega)
  obtain ⟨n, hn⟩ : ∃ n, l.length = n := ⟨_, rfl⟩
  rw [hn] at hbx hl HAT hEN hEL hcap
  have d0 : W.cell? ⟨bx, 0, none⟩ = some (.slice a n cap) := by rw [cell_of_row W bx 0 _ _ (0, 0) hbx]; rfl
  clear hE hel ha hn
  refine callsIn_of_wp Try.func33 rfl trivial ?_ rfl
  simp only [Try.ntmps33, List.size_toArray, List.length_cons, List.length_nil, Nat.reduceAdd, Nat.reduceSub, Array.replicate_succ, Array.replicate_zero, List.push_toArray, List.append_toArray, List.nil_append, List.cons_append]
  gi_wp2
  gi_loopw [4] (fun i wr => ∃ q : Nat, i = .int .i64 ((16 * q : Nat) : Int) ∧ 16 * q < n + 16 ∧ wr.heap[bx]? = some (.cells #[.slice a n cap] 25 (0, 0)) ∧ wr.heap[bn]? = some (.cells #[.int .i64 16] 3 (0, 0)) ∧ J (E.take q) wr)
    (fun i _ => n + 16 - (intOf i).toNat)
  case atStart => exact ⟨0, rfl, by omega, hbx, hbn, by simpa using h0⟩
  case round =>
    clear hbx hbn h0 d0
    obtain ⟨q, rfl, hq, hb, hg, hJr⟩ := hrel
    have d0 : wr.cell? ⟨bx, 0, none⟩ = some (.slice a n cap) := by rw [cell_of_row wr bx 0 _ _ (0, 0) hb]; rfl
    have d1 : wr.cell? ⟨bn, 0, none⟩ = some (.int .i64 16) := by rw [cell_of_row wr bn 0 _ _ (0, 0) hg]; rfl
    by_cases hlt : 16 * q < n
    · obtain ⟨x, hx, rfl, k, hk1, hk16, hk, hen⟩ := HAT.out q hlt
      have htk : E.take (q + 1) = E.take q ++ [x] := by rw [List.take_add_one, hx]; rfl
      have hpre : E.take q ++ [x] <+: E := by rw [← htk]; exact List.take_prefix _ _
      have HY := Lib.hid (fun d => hY (E.take q) x (wr.drewN d) (hJd _ _ d hJr) (hEL.out q hlt))
      have HTK := Lib.hid htk; have HPR := Lib.hid hpre; have HK := Lib.hid hk
      rw [hen] at HY
      have hmin : ∀ ts t W, (Builtin.min_ ts t #[.int .i64 16, .int .i64 ((n - 16 * q : Nat) : Int)]).run Try.prog W = .ok (.int .i64 (k : Int)) W := fun ts t W => run_min2 W ts t 16 (n - 16 * q) k (by omega) (by omega) (by omega)
      obtain ⟨A, hsub⟩ := sub_slice (some ⟨b, off, none⟩) n cap (16 * q) (by omega) hcap
      have hcut := cut_slice b off n cap (16 * q) k hk1 (by omega)
      have hadd : ((16 * q : Nat) : Int) + (k : Int) = ((16 * q + k : Nat) : Int) := by omega
      have hw1 := IntWalk.i64_in ((16 * q : Nat) + (k : Int)) ⟨by omega, by omega⟩
      rw [← hadd] at hcut
      clear hadd
      have HB := Lib.hid hb; have HG := Lib.hid hg
      have hq16 : ((16 * q : Nat) : Int) < (n : Int) := by omega
      have HQ := Lib.hid (show 16 * (q + 1) = 16 * q + 16 from by omega)
      clear htk hpre hk hx hJr HAT hen hb hg
      generalize 16 * q = i at *
      gi_wp2
      gi_quiet (fail)
      obtain ⟨fn, tmps, assign, body, hy, hR⟩ := HY.out nq
      have d0' : (wr.drewN nq).cell? ⟨bx, 0, none⟩ = some (.slice (some ⟨b, off, none⟩) n cap) := d0
      have hb' : (wr.drewN nq).heap[bx]? = _ := HB.out
      have hg' : (wr.drewN nq).heap[bn]? = _ := HG.out
      have HB2 := Lib.hid hb'; have HG2 := Lib.hid hg'
      clear HB HG HY d0 d1 hmin hsub hb' hg'
      generalize wr.drewN nq = w3 at *
      gi_wp2
      refine hR.mono ?_
      rintro e W2 (⟨rfl, hJ2, hk2⟩ | ⟨rfl, hJx2⟩)
      · have hk := hKp _ _ hk2
        have hb2 := hk bx (Or.inl rfl) _ _ _ HB2.out
        have hg2 := hk bn (Or.inr rfl) _ _ _ HG2.out
        have d2 : W2.cell? ⟨bn, 0, none⟩ = some (.int .i64 16) := by rw [cell_of_row W2 bn 0 _ _ (0, 0) hg2]; rfl
        have HB3 := Lib.hid hb2; have HG3 := Lib.hid hg2
        clear hy hR hk2 hk hb2 hg2 hcut hw1
        gi_wp2
        go_roundw
        case rel => exact ⟨q + 1, by rw [HQ.out]; go_num, by rw [HQ.out]; omega, HB3.out, HG3.out, by rw [HTK.out]; exact hJ2⟩
        case measure => simp [intOf]; omega
      · clear hy hR hcut hw1
        gi_wp2
        refine bodyPost_ret (results_none rfl _ _ _) rfl ?_
        exact ⟨⟨_, rfl⟩, .inr ⟨_, HPR.out, hJx2⟩⟩
    · have hT := hEN.out q (by omega)
      rw [hT] at hJr
      clear hT
      gi_wp2
      go_end0
      exact ⟨⟨_, rfl⟩, .inl ⟨E, rfl, hJr⟩⟩
end Go.Proofs.Ytfcfleeiffmjdaa.G
