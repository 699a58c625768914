/- The calls of a disk, further: Sync, Remove, Rename, Cut, Read. -/
import Derived.Test.YtmpipfhlicfagaaDcalls
namespace Go.Proofs.Ytmpipfhlicfagaa
open Go.RowKit Go.Maps

section
variable {B pb mb : Nat} {nv : Value} {u : Int} {cs : List Cf} {S : St} {w w' : World}

/-- A file that is there, put in anew with other bytes of its own row. -/
theorem Dk.putIn (h : Dk B w pb mb nv u cs S none') {f : Fl} {v : Value} (hc : (⟨f, v⟩ : Cf) ∈ cs) (x : Cf) (hxn : x.nm = f.nm) (hrow : w.ownsRow B 5 1 x.v x.f.bt.length (bytesOf x.f.bt)) (hblk : ∀ g, x.v.ownBlock = some g → v.ownBlock = some g)
    (hs : x.f.sure ≤ x.f.bt.length) (hle : x.f.bt.length ≤ f.bt.length) : PutIn B w pb mb nv cs S x := by
  have hf : f ∈ S.fs := by rw [← h.fs]; exact List.mem_map_of_mem (f := Cf.f) hc
  have hg := h.good
  refine ⟨hrow, by rw [hxn]; exact hg.names f hf, hs, ?_, fun g hgx => ?_⟩
  · have h2 := total_wo hg.up hf
    have h3 := hg.fits
    have e : x.f.nm = f.nm := hxn
    simp only [puts, total_ins, e]
    omega
  · obtain ⟨a1, a2, a3, _, _, a6⟩ := h.apart _ hc g (hblk g hgx)
    exact ⟨a1, a2, a3, fun d hd hdn => a6 d hd (by show d.nm ≠ f.nm; rw [← hxn]; exact hdn)⟩

end

theorem post_put {B pb mb : Nat} {nv : Value} {u : Int} {cs : List Cf} {S S' : St} {w w1 w2 : World} {F : Nat → Prop} {x : Cf} {r : Value} {e : Ending} (hF : ∀ k, foot pb mb nv cs k ↔ F k) (t : Turn F w w1)
    (hp : PutPost B pb mb nv u cs S x w1 e w2) (hS : S' = puts S x.f) (hx : ∀ g, x.v.ownBlock = some g → F g ∨ w.heap.size ≤ g) : DkPost B pb F S' r w (.returned r) w2 := by
  obtain ⟨_, nv', h4, t4, hl4⟩ := hp
  subst hS
  have hs := t.size
  exact ⟨rfl, _, ⟨mb, nv', u, _, h4, fun _ => Iff.rfl⟩, foot_put hF (hl4.imp id (fun ⟨g, e, hg⟩ => ⟨g, e, by omega⟩)) hx, t.trans (t4.mono (fun g _ hg => (hF g).1 (Or.inl hg)))⟩

set_option maxHeartbeats 1000000 in
theorem sync_any {B pb : Nat} {S : St} {w : World} {F : Nat → Prop} {n : List UInt8} (h : DkS B w pb F S) (hn : n.length ≤ maxLen) (hcs : S.fs.length < 1000000000) :
    Calls Try.prog 11 #[.pointer (some ⟨pb, 0, none⟩), .string (bs n)] w (DkPost B pb F (syS S n) (.int .i64 (syE S n)) w) := by
  obtain ⟨mb, nv, u, cs, h, hF⟩ := h
  obtain ⟨c0, c1, c2, c3, c4, fz⟩ := h.cells
  clear fz
  cases hf : find S.fs n with
  | none =>
    have e1 : syS S n = S := by simp [syS, hf]
    have e2 : syE S n = 5 := by simp [syE, hf]
    have hl := (h.map.look_no (h.hasNot hf) hn).2
    rw [e1, e2]
    clear hf e1 e2
    go_enter Try.func11, Try.ntmps11
    go_wp2_with (first | (at_lookup; refine wpList_lookup_run _ rfl _ _ _ _ rfl _ _ rfl rfl (.tuple #[.agg #[.slice none 0 0, .int .i64 0], .bool false]) hl ?_) | fail)
    go_ret
    exact post_still h hF ((Turn.refl _ _).alloc _)
  | some f =>
    obtain ⟨v, hc, hfn⟩ := h.has hf
    subst hfn
    obtain ⟨a, cap, hv⟩ := h.form _ hc
    have hbl := len_le h.good (find_mem hf).1
    dsimp only at hv
    subst hv
    have hl := (h.map.look_yes hc hn).2
    by_cases hbu : burns S = true
    · have e1 : syS S f.nm = puts (burnt S) { f with sure := f.bt.length } := by simp [syS, hf, hbu]
      have e2 : syE S f.nm = 0 := by simp [syE, hf, hbu]
      rw [e1, e2]
      have HB := Lib.hid hbu
      obtain ⟨fn, fb, fk⟩ := f
      dsimp only at hbl ⊢
      clear hf e1 e2 hbu
      go_enter Try.func11, Try.ntmps11
      go_wp2_with (first | (at_lookup; refine wpList_lookup_run _ rfl _ _ _ _ rfl _ _ rfl rfl (.tuple #[.agg #[.slice a fb.length cap, .int .i64 fk], .bool true]) hl ?_) | fail)
      refine (burn_is (h.alloc _) HB.out).mono ?_
      rintro e w1 ⟨rfl, u', h1, t1⟩
      have bw : w1.heap[w.heap.size]? = some (.cells #[.slice a fb.length cap, .int .i64 fk] 64 (0, 0)) := by
        rw [t1.block w.heap.size (by simp) (fun e => by have := h.lt.1; omega)]
        exact heap_alloc_new w _
      have x0 : w1.cell? ⟨w.heap.size, 0, none⟩ = some (.slice a fb.length cap) := by rw [cell_of_row w1 _ 0 _ _ (0, 0) bw]; rfl
      have x1 : w1.cell? ⟨w.heap.size, 1, none⟩ = some (.int .i64 fk) := by rw [cell_of_row w1 _ 1 _ _ (0, 0) bw]; rfl
      have y1 : w1.frozen? ⟨w.heap.size, 1, none⟩ = false := by simp [World.frozen?, bw]
      clear bw
      go_wp2_with fail
      have tA : Turn F w w1 := ((Turn.refl _ w).alloc _).trans (t1.mono (fun k _ hk => by rw [hk]; exact (hF pb).1 (Or.inl (Or.inl rfl))))
      have t2 : Turn (fun k => k = w.heap.size) w1 (w1.setCell ⟨w.heap.size, 1, none⟩ (.int .i64 fb.length)) := (Turn.refl (fun k => k = w.heap.size) w1).setCell (p := ⟨w.heap.size, 1, none⟩) rfl _
      have h2 : Dk B (w1.setCell ⟨w.heap.size, 1, none⟩ (.int .i64 fb.length)) pb mb nv u' cs (burnt S) none' := h1.kept t2 (fun k hk hm e => by
        have : k < w.heap.size := by
          rcases hm with hm | ⟨c, hc, _, hm⟩
          · exact (h.footLt (Or.inl hm)).2
          · exact (h.footLt (Or.inr ⟨c, hc, hm⟩)).2
        omega)
      have hx := h2.putIn hc ⟨⟨fn, fb, fb.length⟩, .slice a fb.length cap⟩ rfl (h2.rows ⟨⟨fn, fb, fk⟩, .slice a fb.length cap⟩ hc (fun f => f)) (fun g hg => hg) (Nat.le_refl _) (Nat.le_refl _)
      refine (put_any (h2.weaken (fun _ f => f.elim)) hx (by rw [h.len]; omega)).mono ?_
      rintro e w4 hp
      obtain ⟨rfl, hp'⟩ := id hp
      go_wp2_with fail
      go_ret
      exact post_put hF (tA.then t2 (fun i hi => Or.inr (by rw [hi]; exact Nat.le_refl _))) hp rfl (fun g hg => Or.inl ((hF g).1 (Or.inr ⟨_, hc, hg⟩)))
    · have hbu' : burns S = false := by simpa using hbu
      have e1 : syS S f.nm = burnt S := by simp [syS, hf, hbu]
      have e2 : syE S f.nm = 8 := by simp [syE, hf, hbu]
      rw [e1, e2]
      have HB := Lib.hid hbu'
      obtain ⟨fn, fb, fk⟩ := f
      dsimp only at hbl ⊢
      clear hf e1 e2 hbu hbu'
      go_enter Try.func11, Try.ntmps11
      go_wp2_with (first | (at_lookup; refine wpList_lookup_run _ rfl _ _ _ _ rfl _ _ rfl rfl (.tuple #[.agg #[.slice a fb.length cap, .int .i64 fk], .bool true]) hl ?_) | fail)
      refine (burn_is (h.alloc _) HB.out).mono ?_
      rintro e w1 ⟨rfl, u', h1, t1⟩
      go_wp2_with fail
      go_ret
      exact post_same h1 hF (((Turn.refl _ w).alloc _).trans t1)

/-- What is behind a file that was taken away. -/
theorem post_drop {B pb mb : Nat} {nv : Value} {u : Int} {cs : List Cf} {S S' : St} {n : List UInt8} {w w1 w2 : World} {F : Nat → Prop} {r : Value} {e : Ending} (hF : ∀ k, foot pb mb nv cs k ↔ F k) (t : Turn F w w1)
    (hp : DropPost B pb mb nv u cs S none' n w1 e w2) (hS : S' = { S with fs := wo Fl.nm S.fs n }) : DkPost B pb F S' r w (.returned r) w2 := by
  obtain ⟨_, nv', h4, t4, hl4⟩ := hp
  subst hS
  refine ⟨rfl, _, ⟨mb, nv', u, _, h4, fun _ => Iff.rfl⟩, fun k hk => Or.inl ((hF k).1 ?_), t.trans (t4.mono (fun g _ hg => (hF g).1 (Or.inl hg)))⟩
  rcases hk with (hk | hk | hk) | ⟨c, hc, hk⟩
  · exact Or.inl (Or.inl hk)
  · exact Or.inl (Or.inr (Or.inl hk))
  · exact Or.inl (Or.inr (Or.inr (hl4 ▸ hk)))
  · exact Or.inr ⟨c, (mem_wo.1 hc).1, hk⟩

set_option maxHeartbeats 1000000 in
theorem remove_any {B pb : Nat} {S : St} {w : World} {F : Nat → Prop} {n : List UInt8} (h : DkS B w pb F S) (hn : n.length ≤ maxLen) (hcs : S.fs.length < 1000000000) :
    Calls Try.prog 15 #[.pointer (some ⟨pb, 0, none⟩), .string (bs n)] w (DkPost B pb F (rmS S n) (.int .i64 (rmE S n)) w) := by
  obtain ⟨mb, nv, u, cs, h, hF⟩ := h
  obtain ⟨c0, c1, c2, c3, c4, fz⟩ := h.cells
  clear fz
  cases hf : find S.fs n with
  | none =>
    have e1 : rmS S n = S := by simp [rmS, hf]
    have e2 : rmE S n = 5 := by simp [rmE, hf]
    have hl := (h.map.look_no (h.hasNot hf) hn).2
    rw [e1, e2]
    clear hf e1 e2
    go_enter Try.func15, Try.ntmps15
    go_wp2_with (first | (at_lookup; refine wpList_lookup_run _ rfl _ _ _ _ rfl _ _ rfl rfl (.tuple #[.agg #[.slice none 0 0, .int .i64 0], .bool false]) hl ?_) | fail)
    go_ret
    exact post_still h hF ((Turn.refl _ _).alloc _)
  | some f =>
    obtain ⟨v, hc, hfn⟩ := h.has hf
    subst hfn
    obtain ⟨a, cap, hv⟩ := h.form _ hc
    have hbl := len_le h.good (find_mem hf).1
    dsimp only at hv
    subst hv
    have hl := (h.map.look_yes hc hn).2
    by_cases hbu : burns S = true
    · have e1 : rmS S f.nm = { burnt S with fs := wo Fl.nm (burnt S).fs f.nm } := by simp [rmS, hf, hbu, fs_burnt]
      have e2 : rmE S f.nm = 0 := by simp [rmE, hf, hbu]
      rw [e1, e2]
      have HB := Lib.hid hbu
      obtain ⟨fn, fb, fk⟩ := f
      dsimp only at hbl ⊢
      clear hf e1 e2 hbu
      go_enter Try.func15, Try.ntmps15
      go_wp2_with (first | (at_lookup; refine wpList_lookup_run _ rfl _ _ _ _ rfl _ _ rfl rfl (.tuple #[.agg #[.slice a fb.length cap, .int .i64 fk], .bool true]) hl ?_) | fail)
      refine (burn_is (h.alloc _) HB.out).mono ?_
      rintro e w1 ⟨rfl, u', h1, t1⟩
      go_wp2_with fail
      have tA : Turn F w w1 := ((Turn.refl _ w).alloc _).trans (t1.mono (fun k _ hk => by rw [hk]; exact (hF pb).1 (Or.inl (Or.inl rfl))))
      refine (drop_any h1 hc (by rw [h.len]; omega)).mono ?_
      rintro e w4 hp
      obtain ⟨rfl, hp'⟩ := id hp
      go_wp2_with fail
      go_ret
      exact post_drop hF tA hp rfl
    · have hbu' : burns S = false := by simpa using hbu
      have e1 : rmS S f.nm = burnt S := by simp [rmS, hf, hbu]
      have e2 : rmE S f.nm = 8 := by simp [rmE, hf, hbu]
      rw [e1, e2]
      have HB := Lib.hid hbu'
      obtain ⟨fn, fb, fk⟩ := f
      dsimp only at hbl ⊢
      clear hf e1 e2 hbu hbu'
      go_enter Try.func15, Try.ntmps15
      go_wp2_with (first | (at_lookup; refine wpList_lookup_run _ rfl _ _ _ _ rfl _ _ rfl rfl (.tuple #[.agg #[.slice a fb.length cap, .int .i64 fk], .bool true]) hl ?_) | fail)
      refine (burn_is (h.alloc _) HB.out).mono ?_
      rintro e w1 ⟨rfl, u', h1, t1⟩
      go_wp2_with fail
      go_ret
      exact post_same h1 hF (((Turn.refl _ w).alloc _).trans t1)

set_option maxHeartbeats 1000000 in
theorem rename_any {B pb : Nat} {S : St} {w : World} {F : Nat → Prop} {n m : List UInt8} (h : DkS B w pb F S) (hn : n.length ≤ maxLen) (hm : m.length ≤ maxLen) (hcs : S.fs.length < 1000000000) :
    Calls Try.prog 13 #[.pointer (some ⟨pb, 0, none⟩), .string (bs n), .string (bs m)] w (DkPost B pb F (rnS S n m) (.int .i64 (rnE S n m)) w) := by
  obtain ⟨mb, nv, u, cs, h, hF⟩ := h
  obtain ⟨c0, c1, c2, c3, c4, fz⟩ := h.cells
  clear fz
  cases hf : find S.fs n with
  | none =>
    have e1 : rnS S n m = S := by simp [rnS, hf]
    have e2 : rnE S n m = 5 := by simp [rnE, hf]
    have hl := (h.map.look_no (h.hasNot hf) hn).2
    rw [e1, e2]
    clear hf e1 e2
    go_enter Try.func13, Try.ntmps13
    go_wp2_with (first | (at_lookup; refine wpList_lookup_run _ rfl _ _ _ _ rfl _ _ rfl rfl (.tuple #[.agg #[.slice none 0 0, .int .i64 0], .bool false]) hl ?_) | fail)
    go_ret
    exact post_still h hF ((Turn.refl _ _).alloc _)
  | some f =>
    obtain ⟨v, hc, hfn⟩ := h.has hf
    subst hfn
    obtain ⟨a, cap, hv⟩ := h.form _ hc
    have hbl := len_le h.good (find_mem hf).1
    dsimp only at hv
    subst hv
    have hl := (h.map.look_yes hc hn).2
    by_cases hr : rightName m = true
    · have hV := fun W => valid_is hr hm W
      by_cases hbu : burns S = true
      · have e1 : rnS S f.nm m = puts { burnt S with fs := wo Fl.nm (burnt S).fs f.nm } { f with nm := m } := by simp [rnS, hf, hr, hbu, fs_burnt]
        have e2 : rnE S f.nm m = 0 := by simp [rnE, hf, hr, hbu]
        rw [e1, e2]
        have HB := Lib.hid hbu
        have hfm := (find_mem hf).1
        have htw := total_wo h.good.up hfm
        obtain ⟨fn, fb, fk⟩ := f
        dsimp only at hbl htw ⊢
        have hr12 := rightName_iff.1 hr
        have HT := Lib.hid htw
        clear hf e1 e2 hbu hr htw
        go_enter Try.func13, Try.ntmps13
        go_wp2_with (first | (at_lookup; refine wpList_lookup_run _ rfl _ _ _ _ rfl _ _ rfl rfl (.tuple #[.agg #[.slice a fb.length cap, .int .i64 fk], .bool true]) hl ?_) | fail)
        refine (hV _).mono ?_
        rintro e w1 ⟨rfl, rfl⟩
        go_wp2_with fail
        refine (burn_is (h.alloc _) HB.out).mono ?_
        rintro e w1 ⟨rfl, u', h1, t1⟩
        have bw : w1.heap[w.heap.size]? = some (.cells #[.slice a fb.length cap, .int .i64 fk] 64 (0, 0)) := by
          rw [t1.block w.heap.size (by simp) (fun e => by have := h.lt.1; omega)]
          exact heap_alloc_new w _
        have hsz1 : w.heap.size < w1.heap.size := (Array.getElem?_eq_some_iff.1 bw).1
        go_wp2_with fail
        have tA : Turn F w w1 := ((Turn.refl _ w).alloc _).trans (t1.mono (fun k _ hk => by rw [hk]; exact (hF pb).1 (Or.inl (Or.inl rfl))))
        refine (drop_any h1 hc (by rw [h.len]; omega)).mono ?_
        rintro e w2 ⟨rfl, nv2, h2, t2, hl2⟩
        have hnc : ¬ core pb mb nv w.heap.size := fun hco => by have := (h.footLt (Or.inl hco)).2; omega
        have bw2 : w2.heap[w.heap.size]? = some (.cells #[.slice a fb.length cap, .int .i64 fk] 64 (0, 0)) := by
          rw [t2.block w.heap.size hsz1 hnc]; exact bw
        have x0 : w2.cell? ⟨w.heap.size, 0, none⟩ = some (.slice a fb.length cap) := by rw [cell_of_row w2 _ 0 _ _ (0, 0) bw2]; rfl
        have x1 : w2.cell? ⟨w.heap.size, 1, none⟩ = some (.int .i64 fk) := by rw [cell_of_row w2 _ 1 _ _ (0, 0) bw2]; rfl
        clear bw bw2
        go_wp2_with fail
        have hx : PutIn B w2 pb mb nv2 (wo Cf.nm cs fn) { burnt S with fs := wo Fl.nm (burnt S).fs fn } ⟨⟨m, fb, fk⟩, .slice a fb.length cap⟩ := by
          have hap := h1.apart _ hc
          refine ⟨owns_kept (h1.rows ⟨⟨fn, fb, fk⟩, .slice a fb.length cap⟩ hc (fun f => f)) (fun g hg => ?_), hr12, h1.good.sure ⟨fn, fb, fk⟩ (by rw [← h1.fs]; exact List.mem_map_of_mem (f := Cf.f) hc), ?_, fun g hg => ?_⟩
          · obtain ⟨a1, a2, a3, _, a5, _⟩ := hap g hg
            refine t2.block g a5 (fun hco => ?_)
            rcases hco with e | e | e
            · exact a1 e
            · exact a2 e
            · exact a3 e
          · have hg2 := h2.good
            have h3 := HT.out
            have h4 := h.good.fits
            simp only [puts, total_ins, fs_burnt, room_burnt]
            by_cases hmm : ∃ f ∈ wo Fl.nm S.fs fn, f.nm = m
            · obtain ⟨f, hfm, rfl⟩ := hmm
              have := total_wo (up_wo h.good.up fn) hfm
              omega
            · rw [wo_id (fun f hf e => hmm ⟨f, hf, e⟩)]
              omega
          · obtain ⟨a1, a2, a3, _, a5, a6⟩ := hap g hg
            exact ⟨a1, a2, by rw [hl2]; exact a3, fun d hd _ => a6 d (mem_wo.1 hd).1 (mem_wo.1 hd).2⟩
        have hF2 : ∀ k, foot pb mb nv2 (wo Cf.nm cs fn) k → F k := fun k hk => (hF k).1 (by
          rcases hk with (hk | hk | hk) | ⟨c, hc, hk⟩
          · exact Or.inl (Or.inl hk)
          · exact Or.inl (Or.inr (Or.inl hk))
          · exact Or.inl (Or.inr (Or.inr (hl2 ▸ hk)))
          · exact Or.inr ⟨c, (mem_wo.1 hc).1, hk⟩)
        have hcl : (wo Cf.nm cs fn).length < 1099511627776 := by
          have h5 : (wo Cf.nm cs fn).length ≤ cs.length := List.length_filter_le _ _
          have h6 := h.len
          omega
        refine (put_any (h2.weaken (fun _ f => f.elim)) hx hcl).mono ?_
        rintro e w4 hp
        obtain ⟨rfl, nv', h4, t4, hl4⟩ := hp
        go_wp2_with fail
        go_ret
        have tB : Turn F w w2 := tA.trans (t2.mono (fun g _ hg => (hF g).1 (Or.inl hg)))
        have hs2 := tB.size
        refine ⟨rfl, _, ⟨mb, nv', u', _, h4, fun _ => Iff.rfl⟩, ?_, tB.trans (t4.mono (fun g _ hg => hF2 g (Or.inl hg)))⟩
        rintro k ((hk | hk | hk) | ⟨c, hcc, hk⟩)
        · exact Or.inl (hF2 k (Or.inl (Or.inl hk)))
        · exact Or.inl (hF2 k (Or.inl (Or.inr (Or.inl hk))))
        · rcases hl4 with e | ⟨g, e, hg⟩
          · exact Or.inl (hF2 k (Or.inl (Or.inr (Or.inr (e ▸ hk)))))
          · rw [e] at hk; cases hk; exact Or.inr (by omega)
        · rcases mem_ins.1 hcc with rfl | hcc
          · exact Or.inl ((hF k).1 (Or.inr ⟨_, hc, hk⟩))
          · exact Or.inl (hF2 k (Or.inr ⟨c, (mem_wo.1 hcc).1, hk⟩))
      · have hbu' : burns S = false := by simpa using hbu
        have e1 : rnS S f.nm m = burnt S := by simp [rnS, hf, hr, hbu]
        have e2 : rnE S f.nm m = 8 := by simp [rnE, hf, hr, hbu]
        rw [e1, e2]
        have HB := Lib.hid hbu'
        obtain ⟨fn, fb, fk⟩ := f
        dsimp only at hbl ⊢
        clear hf e1 e2 hbu hbu' hr
        go_enter Try.func13, Try.ntmps13
        go_wp2_with (first | (at_lookup; refine wpList_lookup_run _ rfl _ _ _ _ rfl _ _ rfl rfl (.tuple #[.agg #[.slice a fb.length cap, .int .i64 fk], .bool true]) hl ?_) | fail)
        refine (hV _).mono ?_
        rintro e w1 ⟨rfl, rfl⟩
        go_wp2_with fail
        refine (burn_is (h.alloc _) HB.out).mono ?_
        rintro e w1 ⟨rfl, u', h1, t1⟩
        go_wp2_with fail
        go_ret
        exact post_same h1 hF (((Turn.refl _ w).alloc _).trans t1)
    · have hr' : rightName m = false := by simpa using hr
      have hV := fun W => valid_is hr' hm W
      have e1 : rnS S f.nm m = S := by simp [rnS, hf, hr]
      have e2 : rnE S f.nm m = 1 := by simp [rnE, hf, hr]
      rw [e1, e2]
      obtain ⟨fn, fb, fk⟩ := f
      dsimp only at hbl ⊢
      clear hf e1 e2 hr hr'
      go_enter Try.func13, Try.ntmps13
      go_wp2_with (first | (at_lookup; refine wpList_lookup_run _ rfl _ _ _ _ rfl _ _ rfl rfl (.tuple #[.agg #[.slice a fb.length cap, .int .i64 fk], .bool true]) hl ?_) | fail)
      refine (hV _).mono ?_
      rintro e w1 ⟨rfl, rfl⟩
      go_wp2_with fail
      go_ret
      exact post_still h hF ((Turn.refl _ _).alloc _)
end Go.Proofs.Ytmpipfhlicfagaa
