/- decode: the manifest whose encoding is all of the bytes. -/
import Derived.Test.YtbefhnpmilcffaaDoorNpcatch
import Derived.Deep.AppendLies
import Derived.Test.YtbefhnpmilcffaaDoorBsink
import Derived.Test.YtbefhnpmilcffaaDoorNto
namespace Go.Proofs.YtbefhnpmilcffaaDoor.J
open Go.RowKit
set_option linter.unusedVariables false
set_option linter.unusedSimpArgs false

/-- What decode hands back. -/
def DecPost (w : World) (s : List UInt8) (e : Ending) (w' : World) : Prop :=
  ((e = .returned (.tuple #[mfV 0 none 0 0, .int .i64 2]) ∧ ∀ m, Right m → m.wf → enc m ≠ s) ∨
    ∃ m a cap, e = .returned (.tuple #[mfV m.ver a m.segs.length cap, .int .i64 0]) ∧ SgsIn w' a m.segs ∧ (∀ x, a = some x → w.heap.size ≤ x.block) ∧ Right m ∧ m.wf ∧ enc m = s) ∧ Below w.heap.size w w'

theorem leaves_tmps {P : Program} {fn : Func} {t t' : Array Value} {R : Ending → World → Prop} (hr : results fn t = results fn t') : ∀ (ds : List Deferred) (u : FrameMode) (w : World), Leaves P fn t R ds u w → Leaves P fn t' R ds u w
  | [], .returning, w, h => by simpa only [Leaves, hr] using h
  | [], .panicking _, w, h => h
  | [], .run, w, h => h
  | d :: ds, u, w, h => by
    obtain ⟨h0, fv, cap, f, args, h1, h2, h3⟩ := h
    refine ⟨h0, fv, cap, f, args, h1, h2, h3.mono fun e u' w' he => ?_⟩
    cases e with
    | returned v => exact leaves_tmps hr ds _ _ he
    | panicked c => exact leaves_tmps hr ds _ _ he
    | outgrown => exact he
theorem dec_put {R : Ending → World → Prop} {c : List PanicEntry} {a : Act} {w : World} {j : Nat} {v : Value} (h2 : j ≠ 2) (h3 : j ≠ 3) (h : bodyPostD Tryd.prog Tryd.f31 R (.panic c) (a.put (some j) v) w) : bodyPostD Tryd.prog Tryd.f31 R (.panic c) a w := by
  refine leaves_tmps ?_ _ _ _ h
  have e2 : (a.put (some j) v).tmps.getD 2 undef = a.tmps.getD 2 undef := by simp [Act.put, Array.getD_eq_getD_getElem?, Array.getElem?_setIfInBounds, h2]
  have e3 : (a.put (some j) v).tmps.getD 3 undef = a.tmps.getD 3 undef := by simp [Act.put, Array.getD_eq_getD_getElem?, Array.getElem?_setIfInBounds, h3]
  simp only [results, Tryd.results31]
  rw [Array.getD_eq_getD_getElem?, Array.getD_eq_getD_getElem?] at e2 e3
  simp [e2, e3]
theorem infoSeg : (Tryd.prog.info? 46).map (fun i => (i.zero, i.size, i.bytes)) = some (some (.agg #[.int .i64 0, .int .i64 0, .int .u32 0]), 3, 24) := by kernel_rfl
/-- What has been decoded so far. -/
def Dec (w : World) (v : Nat) (l : List Sg) (rest : List UInt8) (W : World) : Prop :=
  ∃ sv, Rt w (.int .i64 v) sv (.int .i64 0) W ∧ W.ownsRow (w.heap.size + 3) 46 3 sv l.length (sflat l) ∧ Nb W (w.heap.size + 1 + 1) rest
/-- What lay ahead of the row is as it was, but for block q. -/
def Lq (q B : Nat) (wr W : World) : Prop := Turn (fun k => k = q ∨ B ≤ k) wr W
theorem Lq.cell {q B : Nat} {wr W : World} (h : Lq q B wr W) {g : Nat} (hg : g < wr.heap.size) (hq : g ≠ q) (hB : g < B) (j : Nat) : W.cell? ⟨g, j, none⟩ = wr.cell? ⟨g, j, none⟩ := by
  have := h.block g hg (by rintro (e | e); exact hq e; omega)
  simp [World.cell?, this]
theorem Lq.frozen {q B : Nat} {wr W : World} (h : Lq q B wr W) {g : Nat} (hg : g < wr.heap.size) (hq : g ≠ q) (hB : g < B) {j : Nat} {v : Bool} (hf : wr.frozen? ⟨g, j, none⟩ = v) : W.frozen? ⟨g, j, none⟩ = v := by
  have := h.block g hg (by rintro (e | e); exact hq e; omega)
  rw [← hf]
  simp [World.frozen?, this]
theorem Rt.grown {w0 : World} {c0 c1 d : Value} {W W' : World} {row : Option Nat} (h : Rt w0 c0 c1 d W) (hg : W.grownBy W' row) (hr : ∀ k, row = some k → w0.heap.size + 1 < k) : Rt w0 c0 c1 d W' := by
  have l1 : w0.heap.size + 1 < W.heap.size := (Array.getElem?_eq_some_iff.1 h.2.1).1
  exact ⟨by rw [hg.block _ (by omega) (fun e => by have := hr _ e.symm; omega)]; exact h.1, by rw [hg.block _ l1 (fun e => by have := hr _ e.symm; omega)]; exact h.2.1,
    h.2.2.grown hg h.2.2.size (fun k hk => by have := hr k hk; omega)⟩
theorem Dec.next {w wr w8 w9 : World} {v i gg cap : Nat} {l : List Sg} {x : Sg} {r : List UInt8} {sv : Value} {o : Obj} (hR : Rt w (.int .i64 v) sv (.int .i64 0) wr) (t8 : Tq (w.heap.size + 1 + 1) wr w8) (n8 : Nb w8 (w.heap.size + 1 + 1) r)
    (hg : (w8.alloc o).grownBy w9 sv.ownBlock) (hB : ∀ k, sv.ownBlock = some k → w.heap.size + 3 ≤ k) (ho : w9.ownsRow (w.heap.size + 3) 46 3 (.slice (some ⟨gg, 0, none⟩) (i + 1) cap) (i + 1) (sflat l ++ [.int .i64 x.n, .int .i64 x.size, .int .u32 x.sum])) (hl : l.length = i) :
    Dec w v (l ++ [x]) r (w9.setCell ⟨w.heap.size, 1, none⟩ (.slice (some ⟨gg, 0, none⟩) (i + 1) cap)) := by
  have hR8 := hR.turn t8 (by omega)
  have hRa := hR8.call ((Below.refl w8.heap.size w8).alloc (Nat.le_refl _) o)
  have hR9 := hRa.grown hg (fun k hk => by have := hB k hk; omega)
  have hna : Nb (w8.alloc o) (w.heap.size + 1 + 1) r := n8.later ((Below.refl w8.heap.size w8).alloc (Nat.le_refl _) o)
  have hn9 : Nb w9 (w.heap.size + 1 + 1) r := by
    unfold Nb
    rw [hg.block _ hna.lt (fun e => by have := hB _ e.symm; omega)]
    exact hna
  refine ⟨_, hR9.set1 _, ?_, ?_⟩
  · rw [List.length_append, List.length_singleton, hl, sflat_app]
    refine owns_kept ho (fun q hq => ?_)
    have hq2 := (ho.lt q hq).1
    rw [Below.heap_setCell _ _ _ _ (by show q ≠ w.heap.size; omega)]
  · unfold Nb
    rw [Below.heap_setCell _ _ _ _ (by show w.heap.size + 1 + 1 ≠ w.heap.size; omega)]; exact hn9

set_option maxRecDepth 100000 in
set_option maxHeartbeats 4000000 in
theorem decode_any (s : List UInt8) (w : World) (hs : s.length ≤ 5000) : Calls Tryd.prog 31 #[.string (bs s)] w (DecPost w s) := by
  have hmf : ∀ (fn : Fn) (first cap : Array Value) (w : World), (Instr.makeFunc fn first cap).run Tryd.prog w = .ok (.func fn first cap) w := fun _ _ _ _ => rfl
  obtain ⟨w3, hw3⟩ : ∃ w3, w3 = (((w.alloc (.cells #[.int .i64 0, .slice none 0 0] 24)).alloc (.cells #[.int .i64 0] 26)).alloc (.cells #[.string (bs s)] 79)) := ⟨_, rfl⟩
  have hR0 := Rt.start w (.int .i64 0) (.slice none 0 0) (.int .i64 0)
  have hR3 : Rt w (.int .i64 0) (.slice none 0 0) (.int .i64 0) w3 := by rw [hw3]; exact hR0.call ((Below.refl _ _).alloc (Nat.le_refl _) _)
  have hN3 : Nb w3 (w.heap.size + 1 + 1) s := by
    have := heap_alloc_new ((w.alloc (.cells #[.int .i64 0, .slice none 0 0] 24)).alloc (.cells #[.int .i64 0] 26)) (.cells #[.string (bs s)] 79)
    simp only [World.size_alloc] at this
    rw [hw3]; exact this
  have hz3 : w3.heap.size = w.heap.size + 3 := by rw [hw3]; simp
  have HR3 := Lib.hid hR3; have HN3 := Lib.hid hN3; have HW3 := Lib.hid hw3
  clear hR0 hR3 hN3 hw3
  by_cases g1 : nok s 999999
  · have ht1 := nok_tk g1
    have hv := g1.2
    generalize (tk s).1 = v at *
    generalize (tk s).2.1 = r at *
    obtain ⟨es, _, hrl⟩ := tk_len ht1
    have H1 := Lib.hid (fun W hW => next_yes s 999999 v (w.heap.size + 1 + 1) r W hW hs ht1 hv)
    have HES := Lib.hid es
    have q1 : IntKind.i64.wrap (v : Int) = (v : Int) := IntWalk.i64_in _ ⟨by omega, by omega⟩
    clear g1 es
    by_cases g2 : nok r 200
    · have ht2 := nok_tk g2
      have hc := g2.2
      generalize (tk r).1 = c at *
      generalize (tk r).2.1 = r2 at *
      obtain ⟨er, _, hrl2⟩ := tk_len ht2
      have H2 := Lib.hid (fun W hW => next_yes r 200 c (w.heap.size + 1 + 1) r2 W hW (by omega) ht2 hc)
      have HER := Lib.hid er
      have HT1 := Lib.hid ht1; have HT2 := Lib.hid ht2
      clear g2 ht1 ht2 er
      go_enter_defers Tryd.func31, Tryd.ntmps31
      go_wp2_with fail
      rw [← HW3.out]
      refine (H1.out _ HN3.out).mono ?_
      rintro e w4 ⟨rfl, n4, t4⟩
      have hR4 := HR3.out.turn t4 (by omega)
      have hR5 := hR4.set0 (.int .i64 v)
      have n5 : Nb (w4.setCell ⟨w.heap.size, 0, none⟩ (.int .i64 v)) (w.heap.size + 1 + 1) r := by
        unfold Nb
        rw [Below.heap_setCell _ _ _ _ (by show w.heap.size + 1 + 1 ≠ w.heap.size; omega)]; exact n4
      obtain ⟨j0, j1, j2, f0, f1⟩ := hR4.cells
      have HR5 := Lib.hid hR5; have HN5 := Lib.hid n5
      clear hR4 hR5 n4 n5 t4 HR3 HN3
      go_wp2_with fail
      refine (H2.out _ HN5.out).mono ?_
      generalize w4.setCell _ _ = w5 at *
      rintro e w6 ⟨rfl, n6, t6⟩
      have HR6 := Lib.hid (HR5.out.turn t6 (by omega))
      have HN6 := Lib.hid n6
      clear j0 j1 j2 f0 f1 n6 t6 HR5 HN5
      go_wp2_with fail
      go_loopg [15] c (fun g it wr => ∃ (l : List Sg) (rest : List UInt8), l.length + g = c ∧ it = .int .u64 (l.length : Nat) ∧ (∀ x ∈ l, okN x) ∧ s = put v ++ (put c ++ (puts (l.flatMap snums) ++ rest)) ∧ rest.length ≤ 5000 ∧ Dec w v l rest wr)
      case atStart => exact ⟨[], r2, by simp, rfl, fun x hx => by simp at hx, by rw [HES.out, HER.out]; rfl, by omega, ⟨_, HR6.out, World.ownsRow_nil _ _ _ _, HN6.out⟩⟩
      case round =>
        obtain ⟨l, rest, hi, rfl, hok, hes, hrl3, hD⟩ := hrel
        have HOK := Lib.hid hok; have HE := Lib.hid hes; have HD := Lib.hid hD
        clear hok hes hD HES HER HR6 HN6
        obtain ⟨i, hil⟩ : ∃ i, i = l.length := ⟨_, rfl⟩
        rw [← hil] at hi ⊢
        have HIL := Lib.hid hil
        clear hil
        by_cases hlt : i < c
        · obtain ⟨sv, hRr, hown, hnb⟩ := HD.out
          rw [← HIL.out] at hown
          obtain ⟨va, vc, rfl⟩ := sform hown
          have hsz : w.heap.size + 1 + 1 < wr.heap.size := hnb.lt
          obtain ⟨c0, c1, c2, f0, f1⟩ := hRr.cells
          have HR := Lib.hid hRr; have HOW := Lib.hid hown; have HNB := Lib.hid hnb
          obtain ⟨i0, hi1, hz0, hz1, hz2⟩ := info_parts infoSeg
          have HINF := Lib.hid (And.intro hi1 (And.intro hz0 (And.intro hz1 hz2)))
          clear hi1 hz0 hz1 hz2 hRr hown hnb HD
          have m0 : ∀ W, Lq (w.heap.size + 1 + 1) (w.heap.size + 3) wr W → W.cell? ⟨w.heap.size, 1, none⟩ = some (.slice va i vc) := fun W hW => (hW.cell (by omega) (by omega) (by omega) 1).trans c1
          by_cases hS : ∃ x r, S3 rest x r
          · obtain ⟨x, r3, hx⟩ := hS
            obtain ⟨hxb, hxl, hx1, hx2, hx3⟩ := hx.bytes
            have HSG := Lib.hid (fun W hW => seg_yes rest x (w.heap.size + 1 + 1) r3 W hW (by omega) hx)
            have HOKX : Hid (okN x) := Lib.hid ⟨hx1, hx2, hx3⟩
            have HXB := Lib.hid hxb
            clear hx hxb hx1 hx2 hx3
            go_wp2_with fail
            refine wp_region_last (S := Lq (w.heap.size + 1 + 1) (w.heap.size + 3) wr) (k := 7) (by kernel_rfl) rfl (by kernel_rfl) (by kernel_rfl) (by kernel_rfl) ?_
            have hHeld : Lq (w.heap.size + 1 + 1) (w.heap.size + 3) wr wr.drew := (Turn.refl _ wr).drew 1
            refine wpAnyH_take (i := 0) (v := ?_) rfl (by kernel_rfl) (by kernel_rfl) (by kernel_rfl) (fun _ _ _ h => dec_put (by decide) (by decide) h) (Or.inl ⟨by rfl, ?_⟩) hHeld ?_
            rotate_left
            · intro W hSw
              go_simp
              try with_reducible rfl
            try simp only [Act.put, List.setIfInBounds_toArray, List.set_cons_zero, List.set_cons_succ]
            refine wpAnyH_take (i := 1) (v := ?_) rfl (by kernel_rfl) (by kernel_rfl) (by kernel_rfl) (fun _ _ _ h => dec_put (by decide) (by decide) h) (Or.inl ⟨by rfl, ?_⟩) hHeld ?_
            rotate_left
            · intro W hSw
              go_simp
              try with_reducible rfl
            try simp only [Act.put, List.setIfInBounds_toArray, List.set_cons_zero, List.set_cons_succ]
            refine wpAnyH_take (i := 2) (v := ?_) rfl (by kernel_rfl) (by kernel_rfl) (by kernel_rfl) (fun _ _ _ h => dec_put (by decide) (by decide) h) (Or.inl ⟨by rfl, ?_⟩) hHeld ?_
            rotate_left
            · intro W hSw
              go_simp
              try with_reducible rfl
            try simp only [Act.put, List.setIfInBounds_toArray, List.set_cons_zero, List.set_cons_succ]
            refine wpAnyH_ready (rs := [3]) (by kernel_rfl) (by simp) ?_
            refine AllReadyH.cons rfl (fun K hK => ?_) ?_
            · go_simp
              go_at_call 47
              refine (HSG.out wr.drew HNB.out).mono ?_
              rintro e w8 ⟨rfl, n8, t8⟩
              have t8' : Tq (w.heap.size + 1 + 1) wr w8 := ((Turn.refl _ wr).drew 1).trans t8
              have HOW8 : Hid (w8.ownsRow (w.heap.size + 3) 46 3 (.slice va i vc) i (sflat l)) := Lib.hid (owns_kept HOW.out (fun q hq => by
                have := HOW.out.lt q hq
                exact t8'.block q this.2 (by show ¬ q = w.heap.size + 1 + 1; omega)))
              have hz8 : wr.heap.size ≤ w8.heap.size := t8'.size
              have hL8 : Lq (w.heap.size + 1 + 1) (w.heap.size + 3) wr w8 := hHeld.trans (Turn.mono t8 (fun k _ hk => Or.inl hk))
              go_wp2_with fail
              refine hK.out _ _ (by exact hL8) (fun hHeld => ?_)
              clear hK K
              try simp only [Act.put, List.setIfInBounds_toArray, List.set_cons_zero, List.set_cons_succ]
              refine wpAnyH_ready (rs := [4]) (by kernel_rfl) (by simp) ?_
              refine AllReadyH.cons rfl (fun K hK => ?_) ?_
              · go_simp
                refine hK.out _ _ (by exact hL8.alloc _) (fun hHeld => ?_)
                clear hK K
                try simp only [Act.put, List.setIfInBounds_toArray, List.set_cons_zero, List.set_cons_succ]
                refine wpAnyH_ready (rs := [5]) (by kernel_rfl) (by simp) ?_
                refine AllReadyH.cons rfl (fun K hK => ?_) ?_
                · refine step_append_lies _ rfl (.tmp 18) (.tmp 21) 22 (by rfl) (w.heap.size + 3) 46 i0 _ 3 24 Tryd.underlying22 HINF.out.1 HINF.out.2.1 HINF.out.2.2.1 HINF.out.2.2.2 rfl (by omega) (.slice va i vc) i (sflat l) (by rfl) (HOW8.out.alloc _) ⟨w8.heap.size, 0, none⟩ 1 1 [.int .i64 x.n, .int .i64 x.size, .int .u32 x.sum] (by rfl) (by rfl) (World.news_of_block (cs := #[.int .i64 x.n, .int .i64 x.size, .int .u32 x.sum]) (t := 46) (fr := (0, 0)) (heap_alloc_new w8 _)) (by simp [Value.oneCell']) (by omega) (by unfold maxLen; omega) (by omega) (by simp; omega) _ rfl ?_
                  intro gg cap2 w9 hown9 hgrow hat hlt9
                  have hS9 : Lq (w.heap.size + 1 + 1) (w.heap.size + 3) wr w9 := (hL8.alloc _).grown hgrow (fun j hj => Or.inl (Or.inr (HOW.out.lt j hj).1))
                  refine hK.out _ _ (by exact hS9) (fun hHeld => ?_)
                  clear hK K
                  try simp only [Act.put, List.setIfInBounds_toArray, List.set_cons_zero, List.set_cons_succ]
                  refine wpAnyH_take (i := 6) (v := ?_) rfl (by kernel_rfl) (by kernel_rfl) (by kernel_rfl) (fun _ _ _ h => dec_put (by decide) (by decide) h) (Or.inl ⟨by rfl, ?_⟩) hHeld ?_
                  rotate_left
                  · intro W hSw
                    go_simp
                    try with_reducible rfl
                  try simp only [Act.put, List.setIfInBounds_toArray, List.set_cons_zero, List.set_cons_succ]
                  refine wpAnyH_done (by kernel_rfl) ?_ _
                  have x1 := (hS9.cell (g := w.heap.size) (by omega) (by omega) (by omega) 1).trans c1
                  have fz := hS9.frozen (g := w.heap.size) (by omega) (by omega) (by omega) (f0 1)
                  unfold AtLast
                  refine wpOp_step rfl (fun K hK => ?_)
                  have HK := Lib.hid hK
                  clear hK
                  go_simp
                  refine HK.out _ _ ?_
                  clear HK K
                  have HNX := Lib.hid (Dec.next HR.out t8' n8 hgrow (fun k hk => (HOW.out.lt k hk).1) hown9 HIL.out.symm)
                  clear x1 fz hS9 hown9 hgrow hat hL8 hHeld m0 t8' t8 n8
                  go_wp2_with fail
                  go_roundg (gk - 1)
                  case measure => omega
                  case rel => exact ⟨l ++ [x], r3, by rw [List.length_append, List.length_singleton, ← HIL.out]; omega, by rw [List.length_append, List.length_singleton, ← HIL.out]; go_num, fun y hy => by
                      rcases List.mem_append.1 hy with h | h
                      · exact HOK.out y h
                      · rw [List.mem_singleton.1 h]; exact HOKX.out, by rw [HE.out, HXB.out, List.flatMap_append, puts_append, List.flatMap_singleton]; simp, by omega, HNX.out⟩
                exact AllReadyH.nil
              exact AllReadyH.nil
            exact AllReadyH.nil
          · have HSG := Lib.hid (fun W hW => seg_no rest (w.heap.size + 1 + 1) W hW (by omega) (fun x r h => hS ⟨x, r, h⟩))
            have HNO := Lib.hid (no_seg hv hc HOK.out HE.out (by have := HIL.out; omega) (fun x r h => hS ⟨x, r, h⟩))
            clear hS
            go_wp2_with fail
            refine wp_region_last (S := Lq (w.heap.size + 1 + 1) (w.heap.size + 3) wr) (k := 7) (by kernel_rfl) rfl (by kernel_rfl) (by kernel_rfl) (by kernel_rfl) ?_
            have hHeld : Lq (w.heap.size + 1 + 1) (w.heap.size + 3) wr wr.drew := (Turn.refl _ wr).drew 1
            refine wpAnyH_take (i := 0) (v := ?_) rfl (by kernel_rfl) (by kernel_rfl) (by kernel_rfl) (fun _ _ _ h => dec_put (by decide) (by decide) h) (Or.inl ⟨by rfl, ?_⟩) hHeld ?_
            rotate_left
            · intro W hSw
              go_simp
              try with_reducible rfl
            try simp only [Act.put, List.setIfInBounds_toArray, List.set_cons_zero, List.set_cons_succ]
            refine wpAnyH_take (i := 1) (v := ?_) rfl (by kernel_rfl) (by kernel_rfl) (by kernel_rfl) (fun _ _ _ h => dec_put (by decide) (by decide) h) (Or.inl ⟨by rfl, ?_⟩) hHeld ?_
            rotate_left
            · intro W hSw
              go_simp
              try with_reducible rfl
            try simp only [Act.put, List.setIfInBounds_toArray, List.set_cons_zero, List.set_cons_succ]
            refine wpAnyH_take (i := 2) (v := ?_) rfl (by kernel_rfl) (by kernel_rfl) (by kernel_rfl) (fun _ _ _ h => dec_put (by decide) (by decide) h) (Or.inl ⟨by rfl, ?_⟩) hHeld ?_
            rotate_left
            · intro W hSw
              go_simp
              try with_reducible rfl
            try simp only [Act.put, List.setIfInBounds_toArray, List.set_cons_zero, List.set_cons_succ]
            refine wpAnyH_ready (rs := [3]) (by kernel_rfl) (by simp) ?_
            refine AllReadyH.cons rfl (fun K hK => ?_) ?_
            · go_simp
              go_at_call 47
              refine (HSG.out wr.drew HNB.out).mono ?_
              rintro e w8 ⟨rfl, t8⟩
              have hR8 := HR.out.turn (((Turn.refl _ wr).drew 1).trans t8 : Tq (w.heap.size + 1 + 1) wr w8) (by omega)
              unfold mal
              go_wp2_with fail
              refine leaves_cons (f := 45) (args := #[.pointer (some ⟨w.heap.size, 0, none⟩), .pointer (some ⟨w.heap.size + 1, 0, none⟩)]) (by simp) (by simp [go_sem]) ?_
              refine (catch_panicking w.heap.size w.heap.size (w.heap.size + 1) _ _ _ _ _ [] _ hR8.1 hR8.2.1 (by omega) (Nat.le_refl _) (by omega)).mono ?_
              rintro e u' wz ⟨rfl, rfl, hc⟩
              have hRz : Rt w (.int .i64 0) (.slice none 0 0) (.int .i64 2) wz := ⟨hc.1, hc.2.1, hR8.2.2.trans hc.2.2⟩
              obtain ⟨k0, k1, k2, _, _⟩ := hRz.cells
              simp [Leaves, settle, results, Tryd.results31, go_sem, k0, k1, k2]
              exact ⟨Or.inl ⟨rfl, HNO.out⟩, hRz.2.2⟩
            exact AllReadyH.nil
        · obtain rfl : i = c := by omega
          obtain ⟨sv, hRr, hown, hnb⟩ := HD.out
          obtain ⟨c0, c1, c2, f0, f1⟩ := hRr.cells
          have HR := Lib.hid hRr; have HNB := Lib.hid hnb; have HOW := Lib.hid hown
          clear hRr hown hnb HD
          by_cases hrs : rest = []
          · subst hrs
            have HFN := Lib.hid (fun W hW => fin_yes (w.heap.size + 1 + 1) W hW)
            obtain ⟨va, vc, e0, hsg⟩ := owns_sgs HOW.out
            subst e0
            have hfar : ∀ y, va = some y → w.heap.size + 3 ≤ y.block := fun y hy => by
              rcases HOW.out.2 with ⟨e, _⟩ | ⟨g, cap, cur, e, hB, _⟩
              · rw [hy] at e; simp at e
              · rw [hy] at e; simp at e; rw [e.1]; exact hB
            have HRI := Lib.hid (fun W hW => pright_any ⟨v, l⟩ va vc W hW (by show l.length ≤ 1000; have := HIL.out; omega))
            have HSG := Lib.hid hsg; have HFAR := Lib.hid hfar
            clear hsg hfar
            by_cases hr : Right ⟨v, l⟩
            · have HYE := Lib.hid (yes_end HE.out HIL.out.symm)
              have HDM := Lib.hid (fun W => dem_yes W)
              rw [right_iff.2 hr] at HRI
              have HRR := Lib.hid hr
              clear hr
              unfold mfV at HRI
              go_wp2_with fail
              refine (HFN.out _ HNB.out).mono ?_
              rintro e w8 ⟨rfl, rfl⟩
              go_wp2_with fail
              refine (HRI.out _ HSG.out).mono ?_
              rintro e w9 ⟨rfl, b9⟩
              go_wp2_with fail
              refine (HDM.out _).mono ?_
              rintro e w10 ⟨rfl, rfl⟩
              have hR9 := HR.out.call b9
              obtain ⟨q0, q1, q2, g0, g1, hR5⟩ := hR9.sets (.int .i64 v) (.slice va l.length vc) (.int .i64 0)
              obtain ⟨k0, k1, k2, _, _⟩ := hR9.cells
              have hin4 := HSG.out.later b9 (Nat.le_refl _)
              have hin5 := ((hin4.far ⟨w.heap.size, 0, none⟩ (fun x hx => by have := HFAR.out x hx; show x.block ≠ w.heap.size; omega) (.int .i64 v)).far ⟨w.heap.size, 1, none⟩ (fun x hx => by have := HFAR.out x hx; show x.block ≠ w.heap.size; omega) (.slice va l.length vc)).far
                ⟨w.heap.size + 1, 0, none⟩ (fun x hx => by have := HFAR.out x hx; show x.block ≠ w.heap.size + 1; omega) (.int .i64 0)
              go_wp2_with fail
              generalize (((w9.setCell _ _).setCell _ _).setCell _ _) = w5 at *
              refine leaves_cons (f := 45) (args := #[.pointer (some ⟨w.heap.size, 0, none⟩), .pointer (some ⟨w.heap.size + 1, 0, none⟩)]) (by simp) (by simp [go_sem]) ?_
              refine (catch_idle ⟨w.heap.size, 0, none⟩ ⟨w.heap.size + 1, 0, none⟩ _).mono ?_
              rintro e u' w6 ⟨rfl, rfl, rfl⟩
              obtain ⟨k0, k1, k2, _, _⟩ := hR5.cells
              simp [Leaves, settle, results, Tryd.results31, go_sem, k0, k1, k2]
              exact ⟨Or.inr ⟨⟨v, l⟩, va, vc, rfl, hin5, fun x hx => by have := HFAR.out x hx; omega, HRR.out, fun y hy => (HOK.out y hy).2.2, HYE.out⟩, hR5.2.2⟩
            · have HNO := Lib.hid (no_end hv hc HOK.out HE.out HIL.out.symm (Or.inr hr))
              have HDM := Lib.hid (fun W => dem_no W)
              rw [right_no hr] at HRI
              clear hr
              unfold mfV at HRI
              go_wp2_with fail
              refine (HFN.out _ HNB.out).mono ?_
              rintro e w8 ⟨rfl, rfl⟩
              go_wp2_with fail
              refine (HRI.out _ HSG.out).mono ?_
              rintro e w9 ⟨rfl, b9⟩
              go_wp2_with fail
              refine (HDM.out _).mono ?_
              rintro e w10 ⟨rfl, rfl⟩
              have hR9 := HR.out.call b9
              unfold mal
              go_wp2_with fail
              refine leaves_cons (f := 45) (args := #[.pointer (some ⟨w.heap.size, 0, none⟩), .pointer (some ⟨w.heap.size + 1, 0, none⟩)]) (by simp) (by simp [go_sem]) ?_
              refine (catch_panicking w.heap.size w.heap.size (w.heap.size + 1) _ _ _ _ _ [] _ hR9.1 hR9.2.1 (by omega) (Nat.le_refl _) (by omega)).mono ?_
              rintro e u' wz ⟨rfl, rfl, hc⟩
              have hRz : Rt w (.int .i64 0) (.slice none 0 0) (.int .i64 2) wz := ⟨hc.1, hc.2.1, hR9.2.2.trans hc.2.2⟩
              obtain ⟨k0, k1, k2, _, _⟩ := hRz.cells
              simp [Leaves, settle, results, Tryd.results31, go_sem, k0, k1, k2]
              exact ⟨Or.inl ⟨rfl, HNO.out⟩, hRz.2.2⟩
          · have HFN := Lib.hid (fun W hW => fin_no (w.heap.size + 1 + 1) rest W hW hrs)
            have HNO := Lib.hid (no_end hv hc HOK.out HE.out HIL.out.symm (Or.inl hrs))
            clear hrs
            go_wp2_with fail
            refine (HFN.out _ HNB.out).mono ?_
            rintro e w8 ⟨rfl, rfl⟩
            have hR8 := HR.out
            unfold mal
            go_wp2_with fail
            refine leaves_cons (f := 45) (args := #[.pointer (some ⟨w.heap.size, 0, none⟩), .pointer (some ⟨w.heap.size + 1, 0, none⟩)]) (by simp) (by simp [go_sem]) ?_
            refine (catch_panicking w.heap.size w.heap.size (w.heap.size + 1) _ _ _ _ _ [] _ hR8.1 hR8.2.1 (by omega) (Nat.le_refl _) (by omega)).mono ?_
            rintro e u' wz ⟨rfl, rfl, hc⟩
            have hRz : Rt w (.int .i64 0) (.slice none 0 0) (.int .i64 2) wz := ⟨hc.1, hc.2.1, hR8.2.2.trans hc.2.2⟩
            obtain ⟨k0, k1, k2, _, _⟩ := hRz.cells
            simp [Leaves, settle, results, Tryd.results31, go_sem, k0, k1, k2]
            exact ⟨Or.inl ⟨rfl, HNO.out⟩, hRz.2.2⟩
    · have H2 := Lib.hid (fun W hW => next_no r 200 (w.heap.size + 1 + 1) W hW (by omega) g2)
      have HNO := Lib.hid (no_cnt ht1 g2)
      clear g2 ht1
      go_enter_defers Tryd.func31, Tryd.ntmps31
      go_wp2_with fail
      rw [← HW3.out]
      refine (H1.out _ HN3.out).mono ?_
      rintro e w4 ⟨rfl, n4, t4⟩
      have hR4 := HR3.out.turn t4 (by omega)
      have hR5 := hR4.set0 (.int .i64 v)
      have n5 : Nb (w4.setCell ⟨w.heap.size, 0, none⟩ (.int .i64 v)) (w.heap.size + 1 + 1) r := by
        unfold Nb
        rw [Below.heap_setCell _ _ _ _ (by show w.heap.size + 1 + 1 ≠ w.heap.size; omega)]; exact n4
      obtain ⟨j0, j1, j2, f0, f1⟩ := hR4.cells
      have HR5 := Lib.hid hR5; have HN5 := Lib.hid n5
      clear hR4 hR5 n4 n5 t4 HR3 HN3
      go_wp2_with fail
      refine (H2.out _ HN5.out).mono ?_
      rintro e w6 ⟨rfl, t6⟩
      have hR6 := HR5.out.turn t6 (by omega)
      unfold mal
      go_wp2_with fail
      refine leaves_cons (f := 45) (args := #[.pointer (some ⟨w.heap.size, 0, none⟩), .pointer (some ⟨w.heap.size + 1, 0, none⟩)]) (by simp) (by simp [go_sem]) ?_
      refine (catch_panicking w.heap.size w.heap.size (w.heap.size + 1) _ _ _ _ _ [] _ hR6.1 hR6.2.1 (by omega) (Nat.le_refl _) (by omega)).mono ?_
      rintro e u' wz ⟨rfl, rfl, hc⟩
      have hRz : Rt w (.int .i64 0) (.slice none 0 0) (.int .i64 2) wz := ⟨hc.1, hc.2.1, hR6.2.2.trans hc.2.2⟩
      obtain ⟨k0, k1, k2, _, _⟩ := hRz.cells
      simp [Leaves, settle, results, Tryd.results31, go_sem, k0, k1, k2]
      exact ⟨Or.inl ⟨rfl, HNO.out⟩, hRz.2.2⟩
  · have H1 := Lib.hid (fun W hW => next_no s 999999 (w.heap.size + 1 + 1) W hW hs g1)
    have HNO := Lib.hid (no_ver g1)
    clear g1
    go_enter_defers Tryd.func31, Tryd.ntmps31
    go_wp2_with fail
    rw [← HW3.out]
    refine (H1.out _ HN3.out).mono ?_
    rintro e w4 ⟨rfl, t4⟩
    have hR4 := HR3.out.turn t4 (by omega)
    unfold mal
    go_wp2_with fail
    refine leaves_cons (f := 45) (args := #[.pointer (some ⟨w.heap.size, 0, none⟩), .pointer (some ⟨w.heap.size + 1, 0, none⟩)]) (by simp) (by simp [go_sem]) ?_
    refine (catch_panicking w.heap.size w.heap.size (w.heap.size + 1) _ _ _ _ _ [] _ hR4.1 hR4.2.1 (by omega) (Nat.le_refl _) (by omega)).mono ?_
    rintro e u' w5 ⟨rfl, rfl, hc⟩
    have hR5 : Rt w (.int .i64 0) (.slice none 0 0) (.int .i64 2) w5 := ⟨hc.1, hc.2.1, hR4.2.2.trans hc.2.2⟩
    obtain ⟨k0, k1, k2, _, _⟩ := hR5.cells
    simp [Leaves, settle, results, Tryd.results31, go_sem, k0, k1, k2]
    exact ⟨Or.inl ⟨rfl, HNO.out⟩, hR5.2.2⟩
end Go.Proofs.YtbefhnpmilcffaaDoor.J
