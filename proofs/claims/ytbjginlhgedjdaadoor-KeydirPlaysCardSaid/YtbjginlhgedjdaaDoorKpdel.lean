/- The program's directory: Delete. -/
import Derived.Test.YtbjginlhgedjdaaDoorKpput
import Derived.Test.YtbjginlhgedjdaaDoorKdel
import Derived.Test.YtbjginlhgedjdaaDoorKawake
namespace Go.Proofs.YtbjginlhgedjdaaDoor.K
open Go.RowKit
set_option linter.unusedVariables false

/-- The cells of a place may be laid anew. -/
theorem Pk.there {B pb rb n : Nat} {S : Dr} {w : World} (h : Pk B w pb rb n S) {i : Nat} (hi : i < S.length) : w.there rb (i * 6) 6 := fun j hj => by
  obtain ⟨o, ho⟩ : ∃ o, S[i]? = some o := ⟨S[i], List.getElem?_eq_getElem _⟩
  refine ⟨?_, by simp only [World.frozen?, h.row]; simp⟩
  rw [h.cells ho hj, List.getElem?_eq_getElem (by rw [slotv_len]; exact hj)]; rfl
theorem infoPlace6 : (Tryd.prog.info? 61).map (·.size) = some 6 := by kernel_rfl

section
variable {B pb rb n : Nat} {S : Dr} {w : World} {k : List UInt8}
set_option maxHeartbeats 400000 in
theorem pdel_no (h : Pk B w pb rb n S) (hM : Ml B w) (hk : k.length ≤ maxLen) (hn : ∀ i v, ¬ Has S i k v) {e0 : Nat} (he : Empty S e0) :
    Calls Tryd.prog 14 #[.pointer (some ⟨pb, 0, none⟩), .string (bs k)] w fun e w' => e = .returned (.bool false) ∧ w = w' := by
  have hel := empty_lt he
  have hff := ff_first (homeLt k S.length (by omega)) he
  have HA := Lib.hid (psearch_no h hM hk hn he)
  have HE := Lib.hid (pempty_any h hff.1)
  simp only [Option.isNone] at HE
  generalize ff S (hm k S.length) = f at *
  clear h hn hff he
  go_enter Tryd.func14, Tryd.ntmps14
  go_wp2_with (first
    | (go_at_call 24; refine HA.out.mono ?_; rintro e w1 ⟨rfl, rfl⟩)
    | (go_at_call 25; refine HE.out.mono ?_; rintro e w1 ⟨rfl, rfl⟩)
    | fail)
  go_ret
  exact ⟨rfl, rfl⟩

set_option maxRecDepth 100000 in
set_option maxHeartbeats 1000000 in
theorem pdel_yes (h : Pk B w pb rb (cnt S) S) (hML : Ml B w) (hO : Ok hm S) {v : Lc} {i : Nat} (hi : Has S i k v) (hk : k.length ≤ maxLen) (hks : ∀ s ∈ sre S, s.1.length ≤ maxLen) :
    Calls Tryd.prog 14 #[.pointer (some ⟨pb, 0, none⟩), .string (bs k)] w (PkStay B w pb rb (cnt S - 1) (del hm S i) (.bool true)) := by
  have HA := Lib.hid (psearch_yes h hML hk hO.inv hi)
  have HE := Lib.hid (pempty_any h hi)
  simp only [Option.isNone] at HE
  have c0 := h.head
  have hcs := h.few
  have hil := has_lt hi
  have hcp : 1 ≤ cnt S := by have := cnt_none hi; omega
  have HTH := Lib.hid (h.there hil)
  have HBS := Lib.hid h.base
  obtain ⟨W1, hW1⟩ : ∃ W1, W1 = w.setCells rb (i * 6) (#[Value.string ⟨#[]⟩, .int .i64 0, .int .i64 0, .int .i64 0, .int .u64 0, .bool false]).toList := ⟨_, rfl⟩
  have hp := h.put hil none
  rw [show slotv none = (#[Value.string ⟨#[]⟩, .int .i64 0, .int .i64 0, .int .i64 0, .int .u64 0, .bool false]).toList from rfl, ← hW1] at hp
  obtain ⟨R1, t1⟩ := hp
  have c1 := R1.many
  have fz1 : W1.frozen? ⟨pb, 1, none⟩ = false := by simp only [World.frozen?, R1.blk]; simp
  have hcn := R1.cnt
  obtain ⟨M, hM'⟩ : ∃ M, M = cnt S - 1 := ⟨_, rfl⟩
  have hMc : ((cnt S : Nat) : Int) = (M : Int) + 1 := by omega
  obtain ⟨R2, t2⟩ := R1.num (m := M) (by omega)
  rw [hMc] at c1
  have hMb : M ≤ 1024 := by omega
  obtain ⟨L, hL⟩ : ∃ L, L = S.length := ⟨_, rfl⟩
  have HNX := Lib.hid (pnext_any R2 (i := i) (by rw [List.length_set]; exact hil))
  rw [List.length_set, ← hL] at HNX
  rw [← hL] at c0 hcs hil
  have hnl := nx_lt hil
  have M0 := Lib.hid (mid_zero homeLt hO.inv hi hO.less)
  have HAT := Lib.hid (at_mid homeLt hO.inv hi hO.less)
  have HOC := Lib.hid (fun n T j M hn => mid_occ (n := n) (T := T) (j := j) homeLt hO.inv hi hO.less M hn)
  have HEN := Lib.hid (fun T j M => mid_end (T := T) (j := j) homeLt hO.inv hi hO.less M)
  have HW1 := Lib.hid hW1; have HL := Lib.hid hL; have HI := Lib.hid hi; have HOO := Lib.hid hO; have HKS := Lib.hid hks
  have HT := Lib.hid ((t1.mono (fun k _ hk => Or.inr hk)).trans (t2.mono (fun k _ hk => Or.inl hk)) : Turn (fun k => k = pb ∨ k = rb) w _)
  have HR2 := Lib.hid R2; have HML := Lib.hid (Ml.turn hML HT.out (fun k hk => by rcases hk with hk | hk <;> rw [hk]; exact HBS.out.1; exact HBS.out.2.1)); have HMM := Lib.hid hM'
  clear h hO hi hL hks R1 t1 hW1 R2 t2 hML hM' hMc hcp
  generalize hj0 : nx L i = j0 at *
  go_enter Tryd.func14, Tryd.ntmps14
  go_wp2_with (first
    | (go_at_call 24; refine HA.out.mono ?_; rintro e w1 ⟨rfl, rfl⟩)
    | (go_at_call 25; refine HE.out.mono ?_; rintro e w1 ⟨rfl, rfl⟩)
    | (refine wpList_store_mid rfl 61 _ _ rfl rb (i * 6) #[.string ⟨#[]⟩, .int .i64 0, .int .i64 0, .int .i64 0, .int .u64 0, .bool false] rfl rfl HTH.out infoPlace6 zeroOne ?_; rw [← HW1.out])
    | fail)
  refine HNX.out.mono ?_
  rintro e w2 ⟨rfl, rfl⟩
  generalize hW2 : World.setCell _ _ _ = W2 at *
  obtain ⟨R, hR⟩ : ∃ R, R = run S i := ⟨_, rfl⟩
  rw [← hR] at HAT HOC HEN
  have HRR := Lib.hid hR; have HJ0 := Lib.hid hj0
  clear hR hj0 c0 c1 fz1 HNX HA HE HTH hW2
  go_wp2_with fail
  go_loopg [5] R (fun g it wr => ∃ n : Nat, n + g = R ∧ it = .int .i64 (((at' hm S i n).2 : Nat) : Int) ∧ Pk B wr pb rb M (at' hm S i n).1 ∧ Turn (fun k => k = pb ∨ k = rb) w wr ∧ Ml B wr)
  case atStart => exact ⟨0, by omega, by rw [← HJ0.out, HL.out]; rfl, HR2.out, HT.out, HML.out⟩
  case round =>
    obtain ⟨n, hn, rfl, hRk, hT, hMl⟩ := hrel
    obtain ⟨T, hTe⟩ : ∃ T, T = (at' hm S i n).1 := ⟨_, rfl⟩
    obtain ⟨j, hje⟩ : ∃ j, j = (at' hm S i n).2 := ⟨_, rfl⟩
    have hM := HAT.out n (by omega)
    have hnx := fun k1 v1 => at_next (S := S) (i := i) (n := n) (k1 := k1) (v1 := v1)
    rw [← hTe, ← hje] at hM hnx
    rw [← hTe] at hRk
    rw [← hje]
    have hTl := hM.len
    have hjl := hM.jlt
    rw [← HL.out] at hTl hjl
    have c0 := hRk.head
    rw [hTl] at c0
    by_cases hlt : n < R
    · obtain ⟨k1, v1, hj1, hj2⟩ := HOC.out n T j hM hlt
      have hkm : k1.length ≤ maxLen := HKS.out (k1, v1) (sre_mem.2 ⟨j, hj2⟩)
      have HE1 := Lib.hid (pempty_any hRk hj1)
      simp only [Option.isNone] at HE1
      have d0 := hRk.cells hj1 (show 0 < 6 by omega)
      have d1 := hRk.cells hj1 (show 1 < 6 by omega)
      have d2 := hRk.cells hj1 (show 2 < 6 by omega)
      have d3 := hRk.cells hj1 (show 3 < 6 by omega)
      have d4 := hRk.cells hj1 (show 4 < 6 by omega)
      have d5 := hRk.cells hj1 (show 5 < 6 by omega)
      rw [Nat.add_zero] at d0
      simp only [slotv, List.getElem?_cons_succ, List.getElem?_cons_zero] at d0 d1 d2 d3 d4 d5
      have HNX := Lib.hid (hnx k1 v1 (by rw [hTl, HL.out]) hj1)
      have hba : Below wr.heap.size wr (wr.alloc (.cells #[.string (bs k1), .int .i64 v1.seg, .int .i64 v1.off, .int .i64 v1.len, .int .u64 v1.seq, .bool true] 61)) := (Below.refl _ _).alloc (Nat.le_refl _) _
      have hR2 := hRk.below hba
      have m0 := hR2.head
      rw [hTl] at m0
      have HTH2 := Lib.hid (hR2.there (i := j) (by rw [hTl]; exact hjl))
      obtain ⟨W3, hW3⟩ : ∃ W3, W3 = (wr.alloc (.cells #[.string (bs k1), .int .i64 v1.seg, .int .i64 v1.off, .int .i64 v1.len, .int .u64 v1.seq, .bool true] 61)).setCells rb (j * 6) (#[Value.string ⟨#[]⟩, .int .i64 0, .int .i64 0, .int .i64 0, .int .u64 0, .bool false]).toList := ⟨_, rfl⟩
      have hp := hR2.put (i := j) (by rw [hTl]; exact hjl) none
      rw [show slotv none = (#[Value.string ⟨#[]⟩, .int .i64 0, .int .i64 0, .int .i64 0, .int .u64 0, .bool false]).toList from rfl, ← hW3] at hp
      obtain ⟨R3, t3⟩ := hp
      have hgl := hRk.lt.2
      have hnb := heap_alloc_new wr (.cells #[.string (bs k1), .int .i64 v1.seg, .int .i64 v1.off, .int .i64 v1.len, .int .u64 v1.seq, .bool true] 61)
      have hcl := fun t => cell_of_row W3 wr.heap.size t _ _ (0, 0) (by rw [t3.block _ (by simp) (by omega)]; exact hnb)
      have e0 := hcl 0; have e1 := hcl 1; have e2 := hcl 2; have e3 := hcl 3; have e4 := hcl 4; have e5 := hcl 5
      simp only [List.getElem?_toArray, List.getElem?_cons_succ, List.getElem?_cons_zero] at e0 e1 e2 e3 e4 e5
      have m3 := R3.head
      rw [List.length_set, hTl] at m3
      have hbs := hRk.base
      have hMl3 : Ml B W3 := Ml.turn (ml_old hMl hba) t3 (fun k hk => by have hk : k = rb := hk; rw [hk]; exact hbs.2.1)
      have hem : Empty (T.set j none) j := (empty_none (by rw [hTl]; exact hjl)).2 (Or.inl rfl)
      have hno : ∀ p v, ¬ Has (T.set j none) p k1 v := fun p v hp => by
        obtain ⟨g1, g2⟩ := has_none.1 hp
        exact g1 (hM.one _ _ _ _ _ g2 hj1)
      have hSE := psearch_no R3 hMl3 hkm hno hem
      have hfl := empty_lt (ff_first (homeLt k1 (T.set j none).length (by rw [List.length_set, hTl]; omega)) hem).1
      have hfe := (ff_first (homeLt k1 (T.set j none).length (by rw [List.length_set, hTl]; omega)) hem).1
      obtain ⟨f, hf⟩ : ∃ f, f = ff (T.set j none) (hm k1 (T.set j none).length) := ⟨_, rfl⟩
      rw [← hf] at hSE hfl hfe
      have hfl2 := hfl
      rw [List.length_set, hTl] at hfl
      have HSE := Lib.hid hSE
      have HLAY : Hid (lay hm (T.set j none) (k1, v1) = (T.set j none).set f (some (k1, v1))) := Lib.hid (by unfold lay; rw [hf])
      have HP3 := Lib.hid (R3.put hfl2 (some (k1, v1)))
      have hfz : ∀ t, W3.frozen? ⟨rb, t, none⟩ = false := fun t => by simp only [World.frozen?, R3.row]; simp
      have q0 := R3.cells hfe (show 0 < 6 by omega)
      have q1 := R3.cells hfe (show 1 < 6 by omega)
      have q2 := R3.cells hfe (show 2 < 6 by omega)
      have q3 := R3.cells hfe (show 3 < 6 by omega)
      have q4 := R3.cells hfe (show 4 < 6 by omega)
      have q5 := R3.cells hfe (show 5 < 6 by omega)
      rw [Nat.add_zero] at q0
      simp only [slotv, List.getElem?_cons_succ, List.getElem?_cons_zero] at q0 q1 q2 q3 q4 q5
      have HW3 := Lib.hid hW3
      have HT := Lib.hid (hT.trans ((Turn.of_below (fun k => k = pb ∨ k = rb) hba (Nat.le_refl _)).trans (t3.mono (fun k _ hk => Or.inr hk))))
      have HM3 := Lib.hid hMl3
      have HSR := Lib.hid (fun W (hW : Old W3 W) => psearch_no (R3.below hW) (ml_old hMl3 hW) hkm hno hem)
      rw [← hf] at HSR
      have HNX2 : Hid (∀ W, Pk B W pb rb M (lay hm (T.set j none) (k1, v1)) → Calls Tryd.prog 29 #[.pointer (some ⟨pb, 0, none⟩), .int .i64 j] W fun e w' => e = .returned (.int .i64 (nx L j : Nat)) ∧ W = w') := Lib.hid (fun W hW => by
        have hl : (lay hm (T.set j none) (k1, v1)).length = L := by rw [lay_len, List.length_set, hTl]
        have := pnext_any hW (i := j) (by rw [hl]; exact hjl)
        rw [hl] at this; exact this)
      clear hM hRk hT hj1 hj2 hnx hTe hje hR2 R3 t3 hnb hcl hSE hW3 hba hMl hMl3 hem hno hfe hf hfl2
      go_wp2_with (first
        | (go_at_call 25; refine HE1.out.mono ?_; rintro e w1 ⟨rfl, rfl⟩)
        | (refine wpList_store_mid rfl 61 _ _ rfl rb (j * 6) #[.string ⟨#[]⟩, .int .i64 0, .int .i64 0, .int .i64 0, .int .u64 0, .bool false] rfl rfl HTH2.out infoPlace6 zeroOne ?_; rw [← HW3.out])
        | fail)
      have K3 := Old.refl W3
      clear d0 d1 d2 d3 d4 d5 m0 c0
      go_region_with (go_at_call 24; refine (HSR.out _ (by first | exact K3 | exact K3.drew)).mono ?_; rintro e w4 ⟨rfl, rfl⟩)
      all_goals
        go_wp2_with fail
        generalize hW4 : World.drew _ = W4
        have hR4 : Pk B W4 pb rb M (lay hm (T.set j none) (k1, v1)) ∧ Turn (fun k => k = rb) W3 W4 := by
          rw [← hW4, HLAY.out]
          exact ⟨HP3.out.1.below (Below.refl _ _).drew, HP3.out.2.drew 1⟩
        have HR4 := Lib.hid hR4.1; have HT4 := Lib.hid hR4.2
        clear hR4 hW4
        refine (HNX2.out _ HR4.out).mono ?_
        rintro e w5 ⟨rfl, rfl⟩
        clear e0 e1 e2 e3 e4 e5 m3 q0 q1 q2 q3 q4 q5 hfz
        go_wp2_with fail
        go_roundg (gk - 1)
        case measure => omega
        case rel => exact ⟨n + 1, by omega, by rw [HNX.out]; show _ = Value.int .i64 ((nx S.length j : Nat) : Int); rw [← HL.out], by rw [HNX.out]; exact HR4.out, HT.out.trans (HT4.out.mono (fun k _ hk => Or.inr hk)), Ml.turn HM3.out HT4.out (fun k hk => by have hk : k = rb := hk; rw [hk]; exact hbs.2.1)⟩
    · obtain rfl : n = R := by omega
      have he := HEN.out T j hM
      have HE1 := Lib.hid (pempty_any hRk he)
      simp only [Option.isNone] at HE1
      have hdel : T = del hm S i := by unfold del; rw [← HRR.out]; exact hTe
      rw [hdel] at hRk
      have HRk := Lib.hid hRk
      clear hRk hM hnx he hTe hje
      go_wp2_with (first
        | (go_at_call 25; refine HE1.out.mono ?_; rintro e w1 ⟨rfl, rfl⟩)
        | fail)
      go_ret
      exact ⟨rfl, by rw [← HMM.out]; exact HRk.out, hT⟩
end
end Go.Proofs.YtbjginlhgedjdaaDoor.K
