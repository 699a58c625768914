/- The power goes and comes back; a new disk. -/
import Derived.Test.YtmpipfhlicfagaaDcalls3
import Derived.Deep.LoopGhost
namespace Go.Proofs.Ytmpipfhlicfagaa
open Go.RowKit Go.Maps

/-- A slice of integers that lies in none of the blocks F. -/
def IntsIn (w : World) (F : Nat → Prop) (a : Option Addr) (l : List Int) : Prop :=
  ∀ i (h : i < l.length), ∃ b off, a = some ⟨b, off, none⟩ ∧ w.cell? ⟨b, off + i, none⟩ = some (.int .i64 l[i]) ∧ b < w.heap.size ∧ ¬ F b ∧ -9223372036854775808 ≤ l[i] ∧ l[i] ≤ 9223372036854775807

theorem IntsIn.kept {w w' : World} {F : Nat → Prop} {a : Option Addr} {l : List Int} (h : IntsIn w F a l) (t : Turn F w w') : IntsIn w' F a l := fun i hi => by
  obtain ⟨b, off, h1, h2, h3, h4, h5⟩ := h i hi
  exact ⟨b, off, h1, by rw [World.cell?_of_block (w := w) (t.block b h3 h4)]; exact h2, Nat.lt_of_lt_of_le h3 t.size, h4, h5⟩

/-- Somewhere within a crash: the first i files have been gone through. -/
def Mid (B : Nat) (w0 : World) (pb mb : Nat) (nv : Value) (u : Int) (F : Nat → Prop) (S : St) (kept : List Int) (i : Nat) (w : World) : Prop :=
  ∃ cs, Dk B w pb mb nv u cs { S with fs := crashed kept i S.fs } none' ∧ (∀ k, foot pb mb nv cs k → F k) ∧ Turn F w0 w

theorem stays_le (kept : List Int) (i : Nat) {f : Fl} (h : f.sure ≤ f.bt.length) : stays kept i f ≤ f.bt.length ∧ f.sure ≤ stays kept i f := by
  unfold stays
  split <;> omega

/-- One file of a crash is laid anew. -/
theorem mid_put {B pb mb : Nat} {nv : Value} {u : Int} {F : Nat → Prop} {S : St} {kept : List Int} {i : Nat} {w0 w w3 : World} {cs : List Cf} {f : Fl} {a : Option Addr} {cap : Nat}
    (h : Dk B w pb mb nv u cs { S with fs := crashed kept i S.fs } none') (hF : ∀ k, foot pb mb nv cs k → F k) (t : Turn F w0 w) (hu : Up Fl.nm S.fs) (hf : S.fs[i]? = some f) (hc : (⟨f, .slice a f.bt.length cap⟩ : Cf) ∈ cs)
    (hcs : S.fs.length < 1000000000) (t3 : Turn (fun k => k = w.heap.size) w w3) :
    Calls Try.prog 35 #[.pointer (some ⟨pb, 0, none⟩), .string (bs f.nm), .agg #[.slice a (stays kept i f) cap, .int .i64 (stays kept i f : Nat)]] w3 fun e w' => e = .returned (.tuple #[]) ∧ Mid B w0 pb mb nv u F S kept (i + 1) w' := by
  have h3 := h.kept t3 (fun k hk hm e => by omega)
  have hmf : f ∈ crashed kept i S.fs := by rw [(crashed_at hf).1]; simp
  have hsl := stays_le kept i (h.good.sure f hmf)
  have hn := h.good.names f hmf
  have hbl := len_le (S := { S with fs := crashed kept i S.fs }) h.good hmf
  have hx : PutIn B w3 pb mb nv cs { S with fs := crashed kept i S.fs } ⟨crash1 kept i f, .slice a (stays kept i f) cap⟩ := by
    refine h3.putIn hc ⟨crash1 kept i f, .slice a (stays kept i f) cap⟩ rfl ?_ (fun g hg => by cases a <;> simp_all [Value.ownBlock]) ?_ ?_
    · have := owns_take (h3.rows _ hc (fun f => f)) hsl.1
      rw [bytes_take] at this
      have e : (crash1 kept i f).bt.length = stays kept i f := by simp only [crash1, List.length_take]; omega
      dsimp only
      rw [e]
      exact this
    · simp only [crash1, List.length_take]; omega
    · simp only [crash1, List.length_take]; omega
  have hcl : cs.length < 1099511627776 := by
    have h5 := h.len
    have h6 : (crashed kept i S.fs).length = S.fs.length := by have := congrArg List.length (crashed_names kept i S.fs); simpa using this
    have h7 : cs.length = (crashed kept i S.fs).length := h5
    omega
  have hbt : (crash1 kept i f).bt.length = stays kept i f := by simp only [crash1, List.length_take]; omega
  have hp := put_there (u := u) (n := f.nm) (cb := f.bt) (xb := (crash1 kept i f).bt) (csure := f.sure) (xsure := stays kept i f) (ca := a) (xa := a) (ccap := cap) (xcap := cap) (h3.weaken (fun _ f => f.elim)) (by rw [hbt]; exact hx) hc (by unfold maxLen; omega) (by rw [hbt]; omega) hbl hcl
  rw [hbt] at hp
  refine hp.mono ?_
  rintro e w' ⟨rfl, h4, t4⟩
  have hst : puts { S with fs := crashed kept i S.fs } (crash1 kept i f) = { S with fs := crashed kept (i + 1) S.fs } := by
    have := crashed_step (kept := kept) hf hu
    simp only [puts]
    rw [show (crash1 kept i f).nm = f.nm from rfl, this]
  refine ⟨rfl, _, by rw [← hst]; exact h4, ?_, ?_⟩
  · rintro k (hk | ⟨c, hcc, hk⟩)
    · exact hF k (Or.inl hk)
    · rcases mem_ins.1 hcc with rfl | hcc
      · exact hF k (Or.inr ⟨_, hc, by cases a <;> simp_all [Value.ownBlock]⟩)
      · exact hF k (Or.inr ⟨c, (mem_wo.1 hcc).1, hk⟩)
  · have tA : Turn F w0 w3 := t.then t3 (fun j hj => Or.inr (by rw [hj]; exact t.size))
    exact tA.trans (t4.mono (fun g _ hg => hF g (Or.inl hg)))

set_option maxHeartbeats 2000000 in
theorem crash_any {B pb : Nat} {S : St} {w : World} {F : Nat → Prop} {ka : Option Addr} {kc : Nat} {kept : List Int} (h : DkS B w pb F S) (hk : IntsIn w F ka kept) (hkl : kept.length ≤ maxLen) (hcs : S.fs.length < 1000000000) :
    Calls Try.prog 21 #[.pointer (some ⟨pb, 0, none⟩), .slice ka kept.length kc] w (DkPost B pb F (crS S kept) (.tuple #[]) w) := by
  obtain ⟨mb, nv, u, cs, h, hF⟩ := h
  obtain ⟨c0, c1, c2, c3, c4, fz⟩ := h.cells
  clear fz
  unfold maxLen at hkl
  have hnr := h.names
  rw [names_of h] at hnr
  obtain ⟨na, ncap, hnv⟩ := owns_form hnr
  obtain ⟨nl, hnl⟩ : ∃ nl, nl = (S.fs.map Fl.nm).length := ⟨_, rfl⟩
  rw [← hnl] at hnv
  subst hnv
  have hnl2 : nl < 1000000000 := by rw [hnl, List.length_map]; exact hcs
  have hup := h.good.up
  have HU := Lib.hid hup; have HNL := Lib.hid hnl; have HK := Lib.hid hk; clear hup hnl hk hnr
  obtain ⟨kl, hkl'⟩ : ∃ kl, kl = kept.length := ⟨_, rfl⟩
  rw [← hkl']
  have hkl2 : kl ≤ 9223372036854775807 := by omega
  have HKL := Lib.hid hkl'; clear hkl'
  have HM : Hid (Mid B w pb mb (.slice na nl ncap) u F S kept 0 w) := Lib.hid ⟨cs, by rw [crashed_zero]; exact h, fun k hk => (hF k).1 hk, Turn.refl _ _⟩
  go_enter Try.func21, Try.ntmps21
  go_wp2_with fail
  go_loopw [12] (fun it wr => ∃ i : Nat, i ≤ nl ∧ it = .int .i64 i ∧ Mid B w pb mb (.slice na nl ncap) u F S kept i wr) (fun it _ => nl - (intOf it).toNat)
  case atStart => exact ⟨0, by omega, rfl, HM.out⟩
  case round =>
    obtain ⟨i, hi, rfl, hmid⟩ := hrel
    by_cases hlt : i < nl
    · obtain ⟨cs', h1, hF1, t1⟩ := hmid
      have hil : i < S.fs.length := by have := HNL.out; rw [List.length_map] at this; omega
      obtain ⟨f, hf⟩ : ∃ f, S.fs[i]? = some f := ⟨S.fs[i], List.getElem?_eq_getElem hil⟩
      obtain ⟨d0, d1, d2, d3, d4, dz⟩ := h1.cells
      clear dz
      have hnr := h1.names
      rw [names_of h1, crashed_names] at hnr
      have hmf : f ∈ crashed kept i S.fs := by rw [(crashed_at hf).1]; simp
      obtain ⟨v, hc, _⟩ := h1.has (find_of h1.good.up hmf)
      obtain ⟨fa, cap, hv⟩ := h1.form _ hc
      dsimp only at hv
      subst hv
      have hn := h1.good.names f hmf
      have hlook := (h1.map.look_yes hc (show f.nm.length ≤ maxLen by unfold maxLen; omega)).1
      have hbl := len_le (S := { S with fs := crashed kept i S.fs }) h1.good hmf
      have hsure := h1.good.sure f hmf
      have hsl := stays_le kept i hsure
      have hrow := h1.rows _ hc (fun f => f)
      obtain ⟨ha, _, hlc, hcm⟩ := owns_addr hrow
      dsimp only at ha hlc
      have hcut := cut_run fa ha f.bt.length cap (stays kept i f) (by omega)
      have hput := fun w3 t3 => mid_put (kept := kept) (w3 := w3) h1 hF1 t1 HU.out hf hc hcs t3
      obtain ⟨g, hna, hcell⟩ : ∃ g, na = some ⟨g, 0, none⟩ ∧ wr.cell? ⟨g, i, none⟩ = some (.string (bs f.nm)) := by
        rcases owns_cases hnr with ⟨_, h0, _⟩ | ⟨g, cap', cur, hv, _, _, _, _, _, _, _, _, hce, _⟩
        · have := HNL.out; omega
        · injection hv with e1 e2 e3
          refine ⟨g, e1, ?_⟩
          rw [hce i (by have := HNL.out; omega), strs_at, List.getElem?_map, hf]; rfl
      subst hna
      have hst : ∀ x, kept[i]? = some x → ((stays kept i f : Nat) : Int) = (f.sure : Int) + min (max x 0) ((f.bt.length : Int) - (f.sure : Int)) := fun x hx => by
        unfold stays
        rw [hx]
        dsimp only
        omega
      have hst2 : kept[i]? = none → stays kept i f = f.sure := fun hx => by unfold stays; rw [hx]
      have HST := Lib.hid hst; have HST2 := Lib.hid hst2; have HPUT := Lib.hid hput; have HF1 := Lib.hid hF1; have HF0 := Lib.hid hf
      clear hst hst2 hput hF1 hf hrow ha hnr
      obtain ⟨d, hd⟩ : ∃ d, d = stays kept i f := ⟨_, rfl⟩
      rw [← hd] at hcut hsl
      have HD := Lib.hid hd; clear hd
      obtain ⟨fn, fb, fk⟩ := f
      dsimp only at hbl hsure hsl hcut hcell hlook hn hlc
      obtain ⟨hs1, hs2⟩ := hsl
      by_cases hik : i < kl
      · have hik' : i < kept.length := by rw [← HKL.out]; exact hik
        obtain ⟨b, off, hka, hkc, hkb, _, r1, r2⟩ := (HK.out.kept t1) i hik'
        subst hka
        obtain ⟨x, hx⟩ : ∃ x, x = kept[i] := ⟨_, rfl⟩
        rw [← hx] at hkc r1 r2
        have HX := Lib.hid hx; clear hx
        go_wp2_with (first | (at_lookup; refine wpList_lookup_run _ rfl _ _ _ _ rfl _ _ rfl rfl (.agg #[.slice fa fb.length cap, .int .i64 fk]) hlook ?_) | fail)
        go_region
        have hdx : (fk : Int) + min (max x 0) ((fb.length : Int) - (fk : Int)) = (d : Int) := by
          rw [HD.out]
          exact (HST.out x (by rw [HX.out]; exact List.getElem?_eq_getElem hik')).symm
        rw [hdx]
        clear hdx
        generalize hW : World.drew _ = W3
        have tw : Turn (fun _ => False) wr W3 := by rw [← hW]; exact ((Turn.refl _ wr).alloc _).drew 1
        have bw : W3.heap[wr.heap.size]? = some (.cells #[.slice fa fb.length cap, .int .i64 d] 64 (0, 0)) := by rw [← hW]; exact heap_alloc_new wr _
        have hsz3 : wr.heap.size < W3.heap.size := (Array.getElem?_eq_some_iff.1 bw).1
        have x0 : W3.cell? ⟨wr.heap.size, 0, none⟩ = some (.slice fa fb.length cap) := by rw [cell_of_row W3 _ 0 _ _ (0, 0) bw]; rfl
        have x1 : W3.cell? ⟨wr.heap.size, 1, none⟩ = some (.int .i64 d) := by rw [cell_of_row W3 _ 1 _ _ (0, 0) bw]; rfl
        have y0 : W3.frozen? ⟨wr.heap.size, 0, none⟩ = false := by simp [World.frozen?, bw]
        clear hW bw
        go_wp2_with fail
        have hp := HPUT.out (W3.setCell ⟨wr.heap.size, 0, none⟩ (.slice fa d cap)) (Turn.setCell (F := fun k => k = wr.heap.size) (tw.mono (fun _ _ f => f.elim)) (p := ⟨wr.heap.size, 0, none⟩) rfl _)
        rw [← HD.out] at hp
        refine hp.mono ?_
        rintro e w5 ⟨rfl, hm5⟩
        clear hp
        go_wp2_with fail
        go_roundw
        case rel => exact ⟨i + 1, by omega, by go_num, hm5⟩
        case measure => simp [intOf]; omega
      · have hdk : d = fk := by
          rw [HD.out]
          exact HST2.out (List.getElem?_eq_none (by have := HKL.out; omega))
        subst hdk
        go_wp2_with (first | (at_lookup; refine wpList_lookup_run _ rfl _ _ _ _ rfl _ _ rfl rfl (.agg #[.slice fa fb.length cap, .int .i64 d]) hlook ?_) | fail)
        have hp := HPUT.out (wr.alloc (.cells #[.slice fa d cap, .int .i64 d] 64)) ((Turn.refl (fun k => k = wr.heap.size) wr).alloc _)
        rw [← HD.out] at hp
        refine hp.mono ?_
        rintro e w5 ⟨rfl, hm5⟩
        clear hp
        go_wp2_with fail
        go_roundw
        case rel => exact ⟨i + 1, by omega, by go_num, hm5⟩
        case measure => simp [intOf]; omega
    · obtain rfl : i = nl := by omega
      obtain ⟨cs', h1, hF1, t1⟩ := hmid
      obtain ⟨d0, d1, d2, d3, d4, dz⟩ := h1.cells
      have z3 := dz 3
      have z4 := dz 4
      clear dz
      have hall : crashed kept i S.fs = crash kept 0 S.fs := by rw [HNL.out, List.length_map, crashed_all]
      have HALL := Lib.hid hall; clear hall
      have HF1 := Lib.hid hF1; clear hF1
      go_wp2_with fail
      go_end0
      have ht : Turn (fun k => k = pb) wr ((wr.setCell ⟨pb, 4, none⟩ (.bool false)).setCell ⟨pb, 3, none⟩ (.int .i64 (-1))) := (turn_head wr pb 4 _).trans (turn_head _ pb 3 _)
      have hb := heap_setCell_same _ pb 3 _ _ (.int .i64 (-1)) (h1.setAt 4 (.bool false))
      have h2 := h1.head (S' := crS S kept) (u' := -1) ht (by rw [hb]; rfl) (by show crash kept 0 S.fs = _; rw [← HALL.out]) rfl ⟨rfl, by omega, by omega⟩
      exact ⟨rfl, _, ⟨mb, _, -1, cs', h2, fun _ => Iff.rfl⟩, fun k hk => Or.inl (HF1.out k hk), t1.trans (ht.mono (fun k _ hk => by rw [hk]; exact HF1.out pb (Or.inl (Or.inl rfl))))⟩

/-! ### New -/
def newPost (room : Int) (w : World) (e : Ending) (w' : World) : Prop :=
  ∃ pb F, e = .returned (.tuple #[.pointer (some ⟨pb, 0, none⟩), .int .i64 0]) ∧ DkS w.heap.size w' pb F ⟨room, [], -1, false⟩ ∧ (∀ k, F k → w.heap.size ≤ k) ∧ Below w.heap.size w w'

theorem new_no (room : Int) (w : World) (h : room < 0 ∨ 1048576 < room) (h1 : -9223372036854775808 ≤ room) (h2 : room ≤ 9223372036854775807) :
    Calls Try.prog 7 #[.int .i64 room] w fun e w' => e = .returned (.tuple #[.pointer none, .int .i64 1]) ∧ w = w' := by
  by_cases h0 : room < 0
  · clear h
    go_enter Try.func7, Try.ntmps7
    go_wp2
    go_ret2
    exact ⟨rfl, rfl⟩
  · have h3 : 1048576 < room := by omega
    have h4 : 0 ≤ room := by omega
    clear h
    go_enter Try.func7, Try.ntmps7
    go_wp2
    go_ret2
    exact ⟨rfl, rfl⟩

theorem new_yes (room : Int) (w : World) (h0 : 0 ≤ room) (h1 : room ≤ 1048576) : Calls Try.prog 7 #[.int .i64 room] w (newPost room w) := by
  have hmm := @run_makeMap Try.prog
  have HR := Lib.hid h1
  go_enter Try.func7, Try.ntmps7
  go_wp2
  have hD : Dk w.heap.size ((w.alloc (.map #[] 0)).alloc (.cells #[.map (some w.heap.size), .slice none 0 0, .int .i64 room, .int .i64 (-1), .bool false] 60)) (w.heap.size + 1) w.heap.size (.slice none 0 0) (-1) [] ⟨room, [], -1, false⟩ none' := by
    have hm : (w.alloc (.map #[] 0)).ownsMap Try.prog 9 heldR w.heap.size 0 (.map []) := World.ownsMap_made w _ _ _
    have hsz : (w.alloc (.map #[] 0)).heap.size = w.heap.size + 1 := by simp
    refine ⟨?_, ⟨rfl, by omega⟩, ⟨.map [], hm.alloc _, rfl, fun c hc => (by cases hc), fun n hn => (by simp [Maps.has] at hn)⟩, World.ownsRow_nil _ _ _ _, rfl, fun c hc => (by cases hc), fun c hc => (by cases hc), fun c hc => (by cases hc),
      ⟨by omega, Nat.le_refl _, by omega, by simp [Value.ownBlock], by simp [Value.ownBlock], by simp; omega⟩, ⟨List.Pairwise.nil, fun f hf => (by cases hf), fun f hf => (by cases hf), by simp [total]; exact h0, HR.out, ⟨by simp, by simp⟩⟩⟩
    have := heap_alloc_new (w.alloc (.map #[] 0)) (.cells #[.map (some w.heap.size), .slice none 0 0, .int .i64 room, .int .i64 (-1), .bool false] 60)
    rw [hsz] at this
    rw [this]
    simp [left, total]
  go_ret2
  refine ⟨w.heap.size + 1, _, rfl, ⟨_, _, _, _, hD, fun _ => Iff.rfl⟩, fun k hk => ?_, ((Below.refl _ _).alloc (Nat.le_refl _) _).alloc (by simp) _⟩
  exact (hD.footLt hk).1
end Go.Proofs.Ytmpipfhlicfagaa
