/- The calls of a disk, one by one, as its user sees them. -/
import Derived.Test.YtmpipfhlicfagaaDapp
namespace Go.Proofs.Ytmpipfhlicfagaa
open Go.RowKit Go.Maps

/-- A disk that lies in the blocks F, among those from B on. -/
def DkS (B : Nat) (w : World) (pb : Nat) (F : Nat → Prop) (S : St) : Prop := ∃ mb nv u cs, Dk B w pb mb nv u cs S none' ∧ ∀ k, foot pb mb nv cs k ↔ F k

/-- What is behind a call: its answer, the disk, what has turned. -/
def DkPost (B pb : Nat) (F : Nat → Prop) (S' : St) (r : Value) (w : World) (e : Ending) (w' : World) : Prop :=
  e = .returned r ∧ ∃ F', DkS B w' pb F' S' ∧ (∀ k, F' k → F k ∨ w.heap.size ≤ k) ∧ Turn F w w'

theorem DkS.good {B pb : Nat} {w : World} {F : Nat → Prop} {S : St} (h : DkS B w pb F S) : Good S := by obtain ⟨_, _, _, _, h, _⟩ := h; exact h.good
theorem DkS.lt {B pb : Nat} {w : World} {F : Nat → Prop} {S : St} (h : DkS B w pb F S) {k : Nat} (hk : F k) : B ≤ k ∧ k < w.heap.size := by
  obtain ⟨_, _, _, _, h, hF⟩ := h
  exact h.footLt ((hF k).2 hk)
theorem DkS.kept {B pb : Nat} {w w' : World} {F G : Nat → Prop} {S : St} (h : DkS B w pb F S) (t : Turn G w w') (hG : ∀ k, k < w.heap.size → F k → ¬ G k) : DkS B w' pb F S := by
  obtain ⟨mb, nv, u, cs, h, hF⟩ := h
  refine ⟨mb, nv, u, cs, h.kept t (fun k hk hm => hG k hk ((hF k).1 ?_)), hF⟩
  rcases hm with hm | ⟨c, hc, _, hm⟩
  · exact Or.inl hm
  · exact Or.inr ⟨c, hc, hm⟩

section
variable {B pb mb : Nat} {nv : Value} {u : Int} {cs : List Cf} {S : St} {w w' : World} {hole : List UInt8 → Prop}

theorem left_burnt (S : St) : left (burnt S) = left S := by unfold left burnt; split <;> rfl
theorem fs_burnt (S : St) : (burnt S).fs = S.fs := by unfold burnt; split <;> rfl
theorem room_burnt (S : St) : (burnt S).room = S.room := by unfold burnt; split <;> rfl

theorem burn_is (h : Dk B w pb mb nv u cs S hole) {b : Bool} (hb : burns S = b) :
    Calls Try.prog 34 #[.pointer (some ⟨pb, 0, none⟩)] w fun e w' => e = .returned (.bool b) ∧ ∃ u', Dk B w' pb mb nv u' cs (burnt S) hole ∧ Turn (fun k => k = pb) w w' := by
  subst hb; exact burn_any h

theorem valid_is {n : List UInt8} {b : Bool} (hb : rightName n = b) (hn : n.length ≤ maxLen) (w : World) :
    Calls Try.prog 33 #[.string (bs n)] w fun e w' => e = .returned (.bool b) ∧ w = w' := by
  subst hb; exact valid_any n w hn

theorem rightName_iff {n : List UInt8} : rightName n = true ↔ 1 ≤ n.length ∧ n.length ≤ 20 := by simp [rightName]

theorem Dk.has (h : Dk B w pb mb nv u cs S hole) {n : List UInt8} {f : Fl} (hf : find S.fs n = some f) : ∃ v, (⟨f, v⟩ : Cf) ∈ cs ∧ f.nm = n := by
  obtain ⟨h1, h2⟩ := find_mem hf
  rw [← h.fs, List.mem_map] at h1
  obtain ⟨⟨f', v⟩, hc, rfl⟩ := h1
  exact ⟨v, hc, h2⟩
theorem Dk.hasNot (h : Dk B w pb mb nv u cs S hole) {n : List UInt8} (hf : find S.fs n = none) : ∀ c ∈ cs, c.nm ≠ n := fun c hc => find_none hf c.f (by rw [← h.fs]; exact List.mem_map_of_mem (f := Cf.f) hc)
theorem Dk.len (h : Dk B w pb mb nv u cs S hole) : cs.length = S.fs.length := by rw [← h.fs, List.length_map]

/-- The file that a name stands for, or one without bytes. -/
structure Fetch (B : Nat) (w : World) (pb mb : Nat) (nv : Value) (cs : List Cf) (S : St) (n : List UInt8) (v : Value) (cb : List UInt8) (k : Nat) : Prop where
  row : w.ownsRow B 5 1 v cb.length (bytesOf cb)
  apart : ∀ g, v.ownBlock = some g → g ≠ pb ∧ g ≠ mb ∧ nv.ownBlock ≠ some g ∧ g < w.heap.size ∧ (∃ c ∈ cs, c.v.ownBlock = some g) ∧ ∀ d ∈ cs, d.nm ≠ n → d.v.ownBlock ≠ some g
  look : ∀ W : World, W.heap[mb]? = w.heap[mb]? → (Instr.lookup 58 (.map (some mb)) (.string (bs n)) false).run Try.prog W = .ok (.agg #[v, .int .i64 k]) W
  sure : k ≤ cb.length
  is : (∃ f, find S.fs n = some f ∧ f.nm = n ∧ f.bt = cb ∧ f.sure = k) ∨ (find S.fs n = none ∧ cb = [] ∧ k = 0)

theorem Dk.fetch (h : Dk B w pb mb nv u cs S none') (n : List UInt8) (hn : n.length ≤ maxLen) : ∃ a c cb k, Fetch B w pb mb nv cs S n (.slice a cb.length c) cb k := by
  cases hf : find S.fs n with
  | none =>
    refine ⟨none, 0, [], 0, World.ownsRow_nil _ _ _ _, (fun g hg => by cases hg), fun W hW => ?_, Nat.le_refl _, Or.inr ⟨hf, rfl, rfl⟩⟩
    exact ((h.map.kept hW).look_no (h.hasNot hf) hn).1
  | some f =>
    obtain ⟨v, hc, hfn⟩ := h.has hf
    obtain ⟨a, cap, hv⟩ := h.form _ hc
    dsimp only at hv
    subst hv
    refine ⟨a, cap, f.bt, f.sure, h.rows _ hc (fun f => f), fun g hg => ?_, fun W hW => ?_, h.good.sure f (find_mem hf).1, Or.inl ⟨f, hf, hfn, rfl, rfl⟩⟩
    · obtain ⟨a1, a2, a3, a4, a5, a6⟩ := h.apart _ hc g hg
      exact ⟨a1, a2, a3, a5, ⟨_, hc, hg⟩, fun d hd hdn => a6 d hd (by show d.nm ≠ f.nm; rw [hfn]; exact hdn)⟩
    · subst hfn
      exact ((h.map.kept hW).look_yes hc hn).1

/-- Behind a file that was put in: the blocks. -/
theorem foot_put {nv' : Value} {x : Cf} {F : Nat → Prop} {n0 : Nat} (hF : ∀ k, foot pb mb nv cs k ↔ F k) (hl : nv'.ownBlock = nv.ownBlock ∨ ∃ g, nv'.ownBlock = some g ∧ n0 ≤ g)
    (hx : ∀ g, x.v.ownBlock = some g → F g ∨ n0 ≤ g) : ∀ k, foot pb mb nv' (ins Cf.nm (wo Cf.nm cs x.nm) x) k → F k ∨ n0 ≤ k := by
  rintro k ((rfl | rfl | hk) | ⟨c, hc, hk⟩)
  · exact Or.inl ((hF _).1 (Or.inl (Or.inl rfl)))
  · exact Or.inl ((hF _).1 (Or.inl (Or.inr (Or.inl rfl))))
  · rcases hl with e | ⟨g, e, hg⟩
    · exact Or.inl ((hF _).1 (Or.inl (Or.inr (Or.inr (e ▸ hk)))))
    · rw [e] at hk; cases hk; exact Or.inr hg
  · rcases mem_ins.1 hc with rfl | hc
    · exact hx k hk
    · exact Or.inl ((hF _).1 (Or.inr ⟨c, (mem_wo.1 hc).1, hk⟩))
end

/-! ### Append -/
set_option maxHeartbeats 2000000 in
theorem append_go {B pb mb : Nat} {nv : Value} {u : Int} {cs : List Cf} {S : St} {w : World} {F : Nat → Prop} {n b : List UInt8} (h : Dk B w pb mb nv u cs S none') (hF : ∀ k, foot pb mb nv cs k ↔ F k) (hcs : cs.length < 1000000000)
    (hr : rightName n = true) (hbu : burns S = true) (hfit : (b.length : Int) ≤ left S) :
    Calls Try.prog 9 #[.pointer (some ⟨pb, 0, none⟩), .string (bs n), .string (bs b)] w
      (DkPost B pb F (puts (burnt S) (apF S n b)) (.int .i64 0) w) := by
  obtain ⟨r1, r2⟩ := rightName_iff.1 hr
  have hn : n.length ≤ maxLen := by unfold maxLen; omega
  have hV := valid_is hr hn w
  have HR := Lib.hid hr; have HB := Lib.hid hbu; clear hr hbu
  have hbs : ((bs b).size : Int) ≤ left S := by rw [bs_size]; exact hfit
  obtain ⟨i1, i2, _, _⟩ := h.ints
  go_enter Try.func9, Try.ntmps9
  go_wp2_with fail
  refine hV.mono ?_
  rintro e w1 ⟨rfl, rfl⟩
  go_wp2_with fail
  refine (burn_is h HB.out).mono ?_
  rintro e w1 ⟨rfl, u', h1, t1⟩
  obtain ⟨c0, c1, c2, c3, c4, fz⟩ := h1.cells
  rw [left_burnt] at c2
  clear fz
  obtain ⟨fa, fc, cb, k, fe⟩ := h1.fetch n hn
  have hmb1 := h1.lt.2.1
  have hx : apF S n b = ⟨n, cb ++ b, k⟩ := by
    unfold apF
    rcases fe.is with ⟨f, hf, e1, e2, e3⟩ | ⟨hf, e2, e3⟩
    · rw [fs_burnt] at hf
      rw [hf]
      cases f
      simp_all
    · rw [fs_burnt] at hf
      rw [hf, e2, e3]
      simp
  have hbtot : cb.length + b.length ≤ 1048576 ∧ ((total (puts (burnt S) ⟨n, cb ++ b, k⟩).fs : Nat) : Int) ≤ (burnt S).room := by
    have hg := h.good
    have g4 := hg.room
    have hle : (b.length : Int) ≤ S.room - total S.fs := hfit
    rcases fe.is with ⟨f, hf, e1, e2, e3⟩ | ⟨hf, e2, e3⟩
    · rw [fs_burnt] at hf
      have hm := find_mem hf
      have h2 := total_wo hg.up hm.1
      rw [hm.2, e2] at h2
      have h3 : total (puts (burnt S) ⟨n, cb ++ b, k⟩).fs = total (wo Fl.nm S.fs n) + (cb ++ b).length := by
        simp only [puts, total_ins, fs_burnt]
      rw [h3, room_burnt, List.length_append]
      omega
    · rw [fs_burnt] at hf
      have h3 : total (puts (burnt S) ⟨n, cb ++ b, k⟩).fs = total S.fs + (cb ++ b).length := by
        simp only [puts, total_ins, fs_burnt]
        rw [wo_id (find_none hf)]
      rw [h3, room_burnt, e2, List.nil_append, List.length_nil]
      omega
  obtain ⟨hb1, hb2⟩ := hbtot
  obtain ⟨v', w2, hrun, hown, hgr, hloc⟩ : ∃ v' w2, (∀ ty, (Builtin.append_ #[62, 9] ty #[.slice fa cb.length fc, .string (bs b)]).run Try.prog (w1.alloc (.cells #[.slice fa cb.length fc, .int .i64 k] 64)) = .ok v' w2) ∧ w2.ownsRow B 5 1 v' (cb ++ b).length (bytesOf (cb ++ b)) ∧
      (w1.alloc (.cells #[.slice fa cb.length fc, .int .i64 k] 64)).grownBy w2 (Value.slice fa cb.length fc).ownBlock ∧ (v'.ownBlock = (Value.slice fa cb.length fc).ownBlock ∨ v'.ownBlock = some (w1.heap.size + 1)) := by
    have h2 := h1.alloc (.cells #[.slice fa cb.length fc, .int .i64 k] 64)
    obtain ⟨v', w2, q1, q2, q3, q4⟩ := run_append_str (fe.row.alloc (.cells #[.slice fa cb.length fc, .int .i64 k] 64)) b (by omega) h2.base.2.2.2.2.2 0
    exact ⟨v', w2, fun _ => q1, q2, q3, q4.imp id (fun e => e.trans (by simp))⟩
  obtain ⟨na, nc, hnv⟩ := owns_form hown
  obtain ⟨nl, hnl⟩ : ∃ nl, nl = (cb ++ b).length := ⟨_, rfl⟩
  rw [← hnl] at hnv
  subst hnv
  have hne : ∀ g, (Value.slice fa cb.length fc).ownBlock = some g → g < w1.heap.size := fun g hg => (fe.apart g hg).2.2.2.1
  have bw : w2.heap[w1.heap.size]? = some (.cells #[.slice fa cb.length fc, .int .i64 k] 64 (0, 0)) := by
    rw [hgr.block w1.heap.size (by simp) (fun e => by have := hne _ e.symm; omega)]
    exact heap_alloc_new w1 _
  have x0 : w2.cell? ⟨w1.heap.size, 0, none⟩ = some (.slice fa cb.length fc) := by rw [cell_of_row w2 _ 0 _ _ (0, 0) bw]; rfl
  have x1 : w2.cell? ⟨w1.heap.size, 1, none⟩ = some (.int .i64 k) := by rw [cell_of_row w2 _ 1 _ _ (0, 0) bw]; rfl
  have y0 : w2.frozen? ⟨w1.heap.size, 0, none⟩ = false := by simp [World.frozen?, bw]
  have t2 : Turn (fun g => (Value.slice fa cb.length fc).ownBlock = some g) w1 w2 := ((Turn.refl _ w1).alloc _).grown hgr (fun g hg => Or.inl hg)
  have HRUN := Lib.hid hrun; have HOWN := Lib.hid hown; have HGR := Lib.hid hgr; have HLOC := Lib.hid hloc; have HX := Lib.hid hx; have HNL := Lib.hid hnl; have BW := Lib.hid bw
  clear hrun hown hgr hloc hx hnl bw
  go_wp2_with (first
    | (at_lookup; refine wpList_lookup_run _ rfl _ _ _ _ rfl _ _ rfl rfl _ (fe.look _ rfl) ?_)
    | (at_builtin; refine wpList_append_run _ rfl _ _ _ _ rfl _ _ rfl rfl _ _ HRUN.out ?_)
    | fail)
  have hgu := h1.good
  have t3 : Turn (fun g => (Value.slice fa cb.length fc).ownBlock = some g) w1 (w2.setCell ⟨w1.heap.size, 0, none⟩ (.slice na nl nc)) := t2.setNew (p := ⟨w1.heap.size, 0, none⟩) (Nat.le_refl _) _
  have h3 : Dk B (w2.setCell ⟨w1.heap.size, 0, none⟩ (.slice na nl nc)) pb mb nv u' cs (burnt S) (fun m => m = n) := by
    refine (h1.weaken (hole' := fun m => m = n) (fun _ f => f.elim)).kept t3 (fun g hg hm e => ?_)
    obtain ⟨a1, a2, a3, _, _, a6⟩ := fe.apart g e
    rcases hm with (e' | e' | e') | ⟨c, hc, hcn, e'⟩
    · exact a1 e'
    · exact a2 e'
    · exact a3 e'
    · exact a6 c hc hcn e'
  have hxp : PutIn B (w2.setCell ⟨w1.heap.size, 0, none⟩ (.slice na nl nc)) pb mb nv cs (burnt S) ⟨⟨n, cb ++ b, k⟩, .slice na nl nc⟩ := by
    have hvlt : ∀ g, (Value.slice na nl nc).ownBlock = some g → (Value.slice fa cb.length fc).ownBlock = some g ∨ g = w1.heap.size + 1 := fun g hg => by
      rcases HLOC.out with e | e
      · exact Or.inl (e ▸ hg)
      · rw [e] at hg; cases hg; exact Or.inr rfl
    refine ⟨owns_kept HOWN.out (fun g hg => Below.heap_setCell _ _ _ _ (fun e => ?_)), ⟨r1, r2⟩, by have := fe.sure; simp only [List.length_append]; omega, hb2, fun g hg => ?_⟩
    · rcases hvlt g hg with e' | e'
      · have := hne g e'; dsimp only at e; omega
      · dsimp only at e; omega
    · rcases hvlt g hg with e' | e'
      · obtain ⟨a1, a2, a3, _, _, a6⟩ := fe.apart g e'
        exact ⟨a1, a2, a3, a6⟩
      · have l1 := h1.lt
        refine ⟨by omega, by omega, fun e => by have := (l1.2.2 g e).2; omega, fun d hd _ e => ?_⟩
        have := (h1.apart d hd g e).2.2.2.2.1
        omega
  refine (put_any h3 hxp (by omega)).mono ?_
  rintro e w4 ⟨rfl, nv', h4, t4, hl4⟩
  go_wp2
  go_ret
  have hFk : ∀ k, must pb mb nv cs none' k → F k := fun k hk => (hF k).1 (by
    rcases hk with hk | ⟨c, hc, _, hk⟩
    · exact Or.inl hk
    · exact Or.inr ⟨c, hc, hk⟩)
  have s1 : w.heap.size ≤ w1.heap.size := t1.size
  have s3 : w1.heap.size ≤ (w2.setCell ⟨w1.heap.size, 0, none⟩ (.slice na nl nc)).heap.size := t3.size
  rw [HX.out]
  refine ⟨rfl, _, ⟨mb, nv', u', _, h4, fun _ => Iff.rfl⟩, foot_put hF (hl4.imp id (fun ⟨g, e, hg⟩ => ⟨g, e, by omega⟩)) (fun g hg => ?_), ?_⟩
  · rcases HLOC.out with e | e
    · exact Or.inl ((hF g).1 (Or.inr (fe.apart g (e ▸ hg)).2.2.2.2.1))
    · have hg' : (Value.slice na nl nc).ownBlock = some g := hg
      rw [e] at hg'; cases hg'; right; omega
  · have u1 : Turn F w w1 := t1.mono (fun k _ hk => by rw [hk]; exact hFk pb (Or.inl (Or.inl rfl)))
    have u2 : Turn F w _ := u1.trans (t3.mono (fun g _ hg => (hF g).1 (Or.inr (fe.apart g hg).2.2.2.2.1)))
    exact u2.trans (t4.mono (fun g _ hg => hFk g (Or.inl hg)))

theorem post_same {B pb mb : Nat} {nv : Value} {u : Int} {cs : List Cf} {S : St} {w w' : World} {F : Nat → Prop} {r : Value} (h : Dk B w' pb mb nv u cs S none') (hF : ∀ k, foot pb mb nv cs k ↔ F k) (t : Turn (fun k => k = pb) w w') :
    DkPost B pb F S r w (.returned r) w' :=
  ⟨rfl, F, ⟨mb, nv, u, cs, h, hF⟩, fun _ hk => Or.inl hk, t.mono (fun k _ hk => by rw [hk]; exact (hF pb).1 (Or.inl (Or.inl rfl)))⟩
theorem post_still {B pb mb : Nat} {nv : Value} {u : Int} {cs : List Cf} {S : St} {w w' : World} {F : Nat → Prop} {r : Value} (h : Dk B w pb mb nv u cs S none') (hF : ∀ k, foot pb mb nv cs k ↔ F k) (t : Turn (fun _ => False) w w') :
    DkPost B pb F S r w (.returned r) w' :=
  ⟨rfl, F, ⟨mb, nv, u, cs, h.kept t (fun _ _ _ f => f), hF⟩, fun _ hk => Or.inl hk, t.mono (fun _ _ hk => hk.elim)⟩

set_option maxHeartbeats 1000000 in
theorem append_any {B pb : Nat} {S : St} {w : World} {F : Nat → Prop} {n b : List UInt8} (h : DkS B w pb F S) (hn : n.length ≤ maxLen) (hb : b.length ≤ maxLen) (hcs : S.fs.length < 1000000000) :
    Calls Try.prog 9 #[.pointer (some ⟨pb, 0, none⟩), .string (bs n), .string (bs b)] w (DkPost B pb F (apS S n b) (.int .i64 (apE S n b)) w) := by
  obtain ⟨mb, nv, u, cs, h, hF⟩ := h
  unfold maxLen at hb
  by_cases hr : rightName n = true
  · by_cases hbu : burns S = true
    · by_cases hfit : (b.length : Int) ≤ left S
      · have e1 : apS S n b = puts (burnt S) (apF S n b) := by simp [apS, hr, hbu, hfit]
        have e2 : apE S n b = 0 := by simp [apE, hr, hbu, hfit]
        rw [e1, e2]
        exact append_go h hF (by rw [h.len]; exact hcs) hr hbu hfit
      · have e1 : apS S n b = burnt S := by simp [apS, hr, hbu, hfit]
        have e2 : apE S n b = 6 := by simp [apE, hr, hbu, hfit]
        rw [e1, e2]
        have hV := valid_is hr hn w
        have HR := Lib.hid hr; have HB := Lib.hid hbu; clear hr hbu e1 e2
        have hbs : left S < ((bs b).size : Int) := by rw [bs_size]; omega
        have hbs2 : ((bs b).size : Int) ≤ 9223372036854775807 := by rw [bs_size]; omega
        obtain ⟨i1, i2, _, _⟩ := h.ints
        go_enter Try.func9, Try.ntmps9
        go_wp2_with fail
        refine hV.mono ?_
        rintro e w1 ⟨rfl, rfl⟩
        go_wp2_with fail
        refine (burn_is h HB.out).mono ?_
        rintro e w1 ⟨rfl, u', h1, t1⟩
        obtain ⟨c0, c1, c2, c3, c4, fz⟩ := h1.cells
        rw [left_burnt] at c2
        clear fz
        go_wp2_with fail
        go_ret
        exact post_same h1 hF t1
    · have hbu' : burns S = false := by simpa using hbu
      have e1 : apS S n b = burnt S := by simp [apS, hr, hbu]
      have e2 : apE S n b = 8 := by simp [apE, hr, hbu]
      rw [e1, e2]
      have hV := valid_is hr hn w
      have HR := Lib.hid hr; have HB := Lib.hid hbu'; clear hr hbu hbu' e1 e2
      go_enter Try.func9, Try.ntmps9
      go_wp2_with fail
      refine hV.mono ?_
      rintro e w1 ⟨rfl, rfl⟩
      go_wp2_with fail
      refine (burn_is h HB.out).mono ?_
      rintro e w1 ⟨rfl, u', h1, t1⟩
      go_wp2_with fail
      go_ret
      exact post_same h1 hF t1
  · have hr' : rightName n = false := by simpa using hr
    have e1 : apS S n b = S := by simp [apS, hr]
    have e2 : apE S n b = 1 := by simp [apE, hr]
    rw [e1, e2]
    have hV := valid_is hr' hn w
    have HR := Lib.hid hr'; clear hr hr' e1 e2
    go_enter Try.func9, Try.ntmps9
    go_wp2_with fail
    refine hV.mono ?_
    rintro e w1 ⟨rfl, rfl⟩
    go_wp2_with fail
    go_ret
    exact post_still h hF (Turn.refl _ _)

/-! ### Left, Fuse, List, Size -/
theorem left_any {B pb : Nat} {S : St} {w : World} {F : Nat → Prop} (h : DkS B w pb F S) :
    Calls Try.prog 28 #[.pointer (some ⟨pb, 0, none⟩)] w fun e w' => e = .returned (.int .i64 (left S)) ∧ w = w' := by
  obtain ⟨mb, nv, u, cs, h, hF⟩ := h
  obtain ⟨c0, c1, c2, c3, c4, fz⟩ := h.cells
  clear fz
  go_enter Try.func28, Try.ntmps28
  go_wp2
  go_ret
  exact ⟨rfl, rfl⟩

theorem fuse_any {B pb : Nat} {S : St} {w : World} {F : Nat → Prop} (h : DkS B w pb F S) (n : Int) (h1 : -9223372036854775808 ≤ n) (h2 : n ≤ 9223372036854775807) :
    Calls Try.prog 19 #[.pointer (some ⟨pb, 0, none⟩), .int .i64 n] w (DkPost B pb F (fuS S n) (.tuple #[]) w) := by
  obtain ⟨mb, nv, u, cs, h, hF⟩ := h
  obtain ⟨c0, c1, c2, c3, c4, fz⟩ := h.cells
  have f3 := fz 3
  have HS := Lib.hid (h.setAt 3 (.int .i64 n))
  clear fz
  go_enter Try.func19, Try.ntmps19
  go_wp2
  go_end0
  exact post_same (h.head (S' := fuS S n) (turn_head w pb 3 _) HS.out rfl rfl ⟨rfl, h1, h2⟩) hF (turn_head w pb 3 _)

theorem names_of {B pb mb : Nat} {nv : Value} {u : Int} {cs : List Cf} {S : St} {w : World} {hole : List UInt8 → Prop} (h : Dk B w pb mb nv u cs S hole) : cs.map Cf.nm = S.fs.map Fl.nm := by
  rw [← h.fs, List.map_map]; rfl

theorem list_any {B pb : Nat} {S : St} {w : World} {F : Nat → Prop} (h : DkS B w pb F S) (hcs : S.fs.length < 1000000000) :
    Calls Try.prog 23 #[.pointer (some ⟨pb, 0, none⟩)] w fun e w' => ∃ v, e = .returned v ∧ w'.ownsRow w.heap.size 9 1 v (S.fs.map Fl.nm).length (strs (S.fs.map Fl.nm)) ∧ Below w.heap.size w w' := by
  obtain ⟨mb, nv, u, cs, h, hF⟩ := h
  obtain ⟨c0, c1, c2, c3, c4, fz⟩ := h.cells
  clear fz
  have hK := clone_any B nv (cs.map Cf.nm) w h.names (by rw [List.length_map, h.len]; omega)
  rw [names_of h] at hK
  go_enter Try.func23, Try.ntmps23
  go_wp2_with fail
  refine hK.mono ?_
  rintro e w1 ⟨v, rfl, ho, hb⟩
  obtain ⟨a, c, hv⟩ := owns_form ho
  obtain ⟨L, hL⟩ : ∃ L, L = (S.fs.map Fl.nm).length := ⟨_, rfl⟩
  rw [← hL] at hv ho
  subst hv
  have HL := Lib.hid hL; clear hL
  go_wp2
  go_ret
  rw [← HL.out]
  exact ⟨.slice a L c, rfl, ho, hb⟩

def szPost (S : St) (n : List UInt8) (w : World) (e : Ending) (w' : World) : Prop := e = .returned (.tuple #[.int .i64 (szN S n), .int .i64 (szE S n)]) ∧ Below w.heap.size w w'

set_option maxHeartbeats 1000000 in
theorem size_any {B pb : Nat} {S : St} {w : World} {F : Nat → Prop} {n : List UInt8} (h : DkS B w pb F S) (hn : n.length ≤ maxLen) :
    Calls Try.prog 30 #[.pointer (some ⟨pb, 0, none⟩), .string (bs n)] w (szPost S n w) := by
  obtain ⟨mb, nv, u, cs, h, hF⟩ := h
  obtain ⟨c0, c1, c2, c3, c4, fz⟩ := h.cells
  clear fz
  cases hf : find S.fs n with
  | none =>
    have e1 : szN S n = 0 := by simp [szN, hf]
    have e2 : szE S n = 5 := by simp [szE, hf]
    have hl := (h.map.look_no (h.hasNot hf) hn).2
    unfold szPost
    rw [e1, e2]
    clear hf e1 e2
    go_enter Try.func30, Try.ntmps30
    go_wp2_with (first | (at_lookup; refine wpList_lookup_run _ rfl _ _ _ _ rfl _ _ rfl rfl (.tuple #[.agg #[.slice none 0 0, .int .i64 0], .bool false]) hl ?_) | fail)
    go_ret2
    exact ⟨rfl, (Below.refl _ _).alloc (Nat.le_refl _) _⟩
  | some f =>
    obtain ⟨v, hc, hfn⟩ := h.has hf
    subst hfn
    obtain ⟨a, cap, hv⟩ := h.form _ hc
    have hbl := len_le h.good (find_mem hf).1
    dsimp only at hv
    subst hv
    have e1 : szN S f.nm = f.bt.length := by simp [szN, hf]
    have e2 : szE S f.nm = 0 := by simp [szE, hf]
    have hl := (h.map.look_yes hc hn).2
    unfold szPost
    rw [e1, e2]
    obtain ⟨fn, fb, fk⟩ := f
    dsimp only at hbl ⊢
    clear hf e1 e2
    go_enter Try.func30, Try.ntmps30
    go_wp2_with (first | (at_lookup; refine wpList_lookup_run _ rfl _ _ _ _ rfl _ _ rfl rfl (.tuple #[.agg #[.slice a fb.length cap, .int .i64 fk], .bool true]) hl ?_) | fail)
    go_ret2
    exact ⟨rfl, (Below.refl _ _).alloc (Nat.le_refl _) _⟩
end Go.Proofs.Ytmpipfhlicfagaa
