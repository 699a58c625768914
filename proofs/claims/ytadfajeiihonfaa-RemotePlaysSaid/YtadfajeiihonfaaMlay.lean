/- The document's remote: an object is laid. -/
import Derived.Test.YtadfajeiihonfaaMwith
import Derived.Test.YtadfajeiihonfaaBsink
namespace Go.Proofs.Ytadfajeiihonfaa
open Go.RowKit
set_option linter.unusedVariables false
set_option linter.unusedSimpArgs false
set_option maxRecDepth 100000

/-- A row of objects has been laid behind the remote that is there. -/
theorem RfStep.laid {B qb : Nat} {lv sv lv1 sv1 : Value} {S S1 : Rs} {w w1 w5 : World} {l : List Ob} {a : Option Addr} {k c : Nat} (hs : (∀ k, rfoot qb lv1 sv1 k → rfoot qb lv sv k ∨ w.heap.size ≤ k) ∧ Turn (fun k => k = qb) w w1) (h1 : Rf B w1 qb lv1 sv1 S1) (hb : Below w1.heap.size w1 w5) (hf : Objs w5 w1.heap.size (.slice a k c) l)
    (hok : Ok { S1 with obs := l }) : RfStep B qb lv sv w { S1 with obs := l } (w5.setCell ⟨qb, 0, none⟩ (.slice a k c)) := by
  have h5 := h1.below hb
  have ht := turn_head w5 qb 0 (.slice a k c)
  have hq := (h1.lt (Or.inl rfl)).2
  have hne : ∀ g, (Value.slice a k c).ownBlock = some g → g ≠ qb := fun g hg e => by have := (hf.lt g hg).1; omega
  refine ⟨_, _, h5.head (S' := { S1 with obs := l }) ht (h5.setAt 0 _) (owns_kept (objs_base hf h1.base.2.2) (fun g hg => Below.heap_setCell _ _ _ _ (hne g hg))) (fun e => hne qb e rfl) (h5.script.setOwn 0 _) hok, fun k hk => ?_, hs.2.trans ((Turn.of_below _ hb (Nat.le_refl _)).trans ht)⟩
  rcases hk with hk | hk | hk
  · exact Or.inl (Or.inl hk)
  · exact Or.inr (Nat.le_trans hs.2.size (hf.lt k hk).1)
  · exact hs.1 k (Or.inr (Or.inr hk))

set_option maxHeartbeats 4000000 in
theorem lay_any {B qb : Nat} {lv sv : Value} {S : Rs} {w : World} (h : Rf B w qb lv sv S) (n b : List UInt8) (hn : n.length ≤ 9223372036854775807) (hcs : S.obs.length < 1000000000) :
    Calls Try.prog 24 #[.pointer (some ⟨qb, 0, none⟩), .string (bs n), .string (bs b)] w fun e w' => e = .returned (.tuple #[]) ∧ RfStep B qb lv sv w { S with obs := lays S.obs n b } w' := by
  have hokl := ok_lays (b := b) h.ok hn hcs
  have hwo := Lib.hid (without_any h n hcs)
  have hwl : (wo Ob.nm S.obs n).length ≤ S.obs.length := List.length_filter_le _ _
  obtain ⟨S1, hS1⟩ : ∃ S1, S1 = ({ S with obs := wo Ob.nm S.obs n } : Rs) := ⟨_, rfl⟩
  have hSo : S1.obs = wo Ob.nm S.obs n := by rw [hS1]
  have hlay : ({ S with obs := lays S.obs n b } : Rs) = { S1 with obs := S1.obs.take (pos Ob.nm S1.obs n) ++ [⟨n, b⟩] ++ S1.obs.drop (pos Ob.nm S1.obs n) } := by
    have := ins_at (k := Ob.nm) S1.obs ⟨n, b⟩
    rw [lays, ← hSo, this, hS1]
  rw [hlay] at hokl ⊢
  rw [← hSo] at hwl
  have hple := pos_le (k := Ob.nm) S1.obs n
  obtain ⟨p, hp⟩ : ∃ p, p = pos Ob.nm S1.obs n := ⟨_, rfl⟩
  rw [← hp] at hple hokl ⊢
  rw [← hS1] at hwo
  clear h hlay hSo hS1
  have HP := Lib.hid hp; have HOK := Lib.hid hokl
  clear hp hokl
  go_enter Try.func24, Try.ntmps24
  go_wp2_with fail
  refine hwo.out.mono ?_
  rintro e w1 ⟨rfl, lv1, sv1, h1, f1, t1⟩
  clear hwo
  have hu := h1.ok.up
  obtain ⟨la, lc, hlv, hlc, hcut, ⟨A, c, htail, hsrc2⟩, hsrc1⟩ := src_obs h1.row p hple
  obtain ⟨L, hL⟩ : ∃ L, L = S1.obs.length := ⟨_, rfl⟩
  rw [← hL] at hlv hlc htail hsrc2 hple hwl
  have hrow := h1.row
  have hlt := h1.row.lt
  have hcells := h1.cells
  subst hlv
  have hlw : ∀ W, Elder w1 W → ∀ k, (Value.slice la L lc).ownBlock = some k → W.heap[k]? = w1.heap[k]? := fun W hW k hk => hW.block k (hlt k hk).2
  obtain ⟨c0, _, _, _⟩ := hcells
  have HT := Lib.hid (And.intro f1 t1)
  have HL := Lib.hid hL; have HR := Lib.hid hrow; have HU := Lib.hid hu; have HS1 := Lib.hid hsrc1; have HS2 := Lib.hid hsrc2; have HLW := Lib.hid hlw
  clear hL hrow hu hsrc1 hsrc2 hlt hlw f1 t1
  go_wp2_with fail
  go_loopg [6] p (fun g it wr => ∃ i : Nat, i + g = p ∧ it = .int .i64 i ∧ w1 = wr)
  case atStart => exact ⟨0, by omega, rfl, rfl⟩
  case round =>
    obtain ⟨i, hi, rfl, rfl⟩ := hrel
    by_cases hiL : i < L
    · obtain ⟨x, hx⟩ : ∃ x, S1.obs[i]? = some x := ⟨S1.obs[i]'(by have := HL.out; omega), List.getElem?_eq_getElem _⟩
      obtain ⟨g, hg, _, hgl, d0, d1⟩ := objs_at HR.out hx
      subst hg
      by_cases hip : i < p
      · have hlt : lt x.nm n = true := pos_before (k := Ob.nm) (by rw [← HP.out]; exact hip) hx
        have hbl : Op.bytesLess (bs x.nm).toList (bs n).toList = true := by rw [bs_toList, bs_toList]; exact hlt
        have HX := Lib.hid hx; clear hx hlt
        go_wp2
        go_roundg (gk - 1)
        case measure => omega
        case rel => exact ⟨i + 1, by omega, by go_num, rfl⟩
      · obtain rfl : i = p := by omega
        have hlt : lt x.nm n = false := pos_behind (k := Ob.nm) HU.out (by rw [← HP.out]; exact Nat.le_refl _) hx
        have hbl : Op.bytesLess (bs x.nm).toList (bs n).toList = false := by rw [bs_toList, bs_toList]; exact hlt
        have HX := Lib.hid hx; clear hx hlt
        go_wp2
        clear d0 d1 c0
        have hq2 := (h1.lt (Or.inl rfl)).2
        obtain ⟨q0, q1, q2, qz⟩ := h1.cells
        have hQ0 : ∀ W, Elder w1 W → W.cell? ⟨qb, 0, none⟩ = some (Value.slice (some ⟨g, 0, none⟩) L lc) := fun W hW => by rw [Below.cell (p := ⟨qb, 0, none⟩) hW hq2]; exact q0
        have hQf : ∀ W, Elder w1 W → W.frozen? ⟨qb, 0, none⟩ = false := fun W hW => by rw [Below.frozen (p := ⟨qb, 0, none⟩) hW hq2]; exact qz 0
        have K0 : Elder w1 w1 := Elder.refl _
        have hl9 : S1.obs.length ≤ 1000000000 := by have := HL.out; omega
        have HQ0 := Lib.hid hQ0; have HQf := Lib.hid hQf; have H1 := Lib.hid h1
        clear q1 q2 qz h1 hQf
        refine wp_region_last (S := Elder w1) (k := 23) (by kernel_rfl) rfl (by kernel_rfl) (by kernel_rfl) (by kernel_rfl) ?_
        have hHeld : Elder w1 w1.drew := K0.drew
        refine wpAnyH_take (i := 0) (v := ?_) rfl (by kernel_rfl) (by kernel_rfl) (by kernel_rfl) (fun _ _ _ h => h) (Or.inl ⟨by rfl, ?_⟩) hHeld ?_
        rotate_left
        · intro W hSw
          go_simp
          try with_reducible rfl
        try simp only [Act.put, List.setIfInBounds_toArray, List.set_cons_zero, List.set_cons_succ]
        refine wpAnyH_take (i := 2) (v := ?_) rfl (by kernel_rfl) (by kernel_rfl) (by kernel_rfl) (fun _ _ _ h => h) (Or.inl ⟨by rfl, ?_⟩) hHeld ?_
        rotate_left
        · intro W hSw
          go_simp
          try with_reducible rfl
        try simp only [Act.put, List.setIfInBounds_toArray, List.set_cons_zero, List.set_cons_succ]
        refine wpAnyH_take (i := 3) (v := ?_) rfl (by kernel_rfl) (by kernel_rfl) (by kernel_rfl) (fun _ _ _ h => h) (Or.inl ⟨by rfl, ?_⟩) hHeld ?_
        rotate_left
        · intro W hSw
          go_simp
          try with_reducible rfl
        try simp only [Act.put, List.setIfInBounds_toArray, List.set_cons_zero, List.set_cons_succ]
        refine wpAnyH_take (i := 4) (v := ?_) rfl (by kernel_rfl) (by kernel_rfl) (by kernel_rfl) (fun _ _ _ h => h) (Or.inl ⟨by rfl, ?_⟩) hHeld ?_
        rotate_left
        · intro W hSw
          go_simp
          try with_reducible rfl
        try simp only [Act.put, List.setIfInBounds_toArray, List.set_cons_zero, List.set_cons_succ]
        refine wpAnyH_take (i := 5) (v := ?_) rfl (by kernel_rfl) (by kernel_rfl) (by kernel_rfl) (fun _ _ _ h => h) (Or.inl ⟨by rfl, ?_⟩) hHeld ?_
        rotate_left
        · intro W hSw
          go_simp
          try with_reducible rfl
        try simp only [Act.put, List.setIfInBounds_toArray, List.set_cons_zero, List.set_cons_succ]
        refine wpAnyH_take (i := 6) (v := ?_) rfl (by kernel_rfl) (by kernel_rfl) (by kernel_rfl) (fun _ _ _ h => h) (Or.inl ⟨by rfl, ?_⟩) hHeld ?_
        rotate_left
        · intro W hSw
          go_simp
          try with_reducible rfl
        try simp only [Act.put, List.setIfInBounds_toArray, List.set_cons_zero, List.set_cons_succ]
        refine wpAnyH_take (i := 7) (v := ?_) rfl (by kernel_rfl) (by kernel_rfl) (by kernel_rfl) (fun _ _ _ h => h) (Or.inl ⟨by rfl, ?_⟩) hHeld ?_
        rotate_left
        · intro W hSw
          go_simp
          try with_reducible rfl
        try simp only [Act.put, List.setIfInBounds_toArray, List.set_cons_zero, List.set_cons_succ]
        refine wpAnyH_take (i := 9) (v := ?_) rfl (by kernel_rfl) (by kernel_rfl) (by kernel_rfl) (fun _ _ _ h => h) (Or.inl ⟨by rfl, ?_⟩) hHeld ?_
        rotate_left
        · intro W hSw
          go_simp
          try with_reducible rfl
        try simp only [Act.put, List.setIfInBounds_toArray, List.set_cons_zero, List.set_cons_succ]
        refine wpAnyH_take (i := 10) (v := ?_) rfl (by kernel_rfl) (by kernel_rfl) (by kernel_rfl) (fun _ _ _ h => h) (Or.inl ⟨by rfl, ?_⟩) hHeld ?_
        rotate_left
        · intro W hSw
          go_simp
          try with_reducible rfl
        try simp only [Act.put, List.setIfInBounds_toArray, List.set_cons_zero, List.set_cons_succ]
        refine wpAnyH_take (i := 11) (v := ?_) rfl (by kernel_rfl) (by kernel_rfl) (by kernel_rfl) (fun _ _ _ h => h) (Or.inl ⟨by rfl, ?_⟩) hHeld ?_
        rotate_left
        · intro W hSw
          go_simp
          try with_reducible rfl
        try simp only [Act.put, List.setIfInBounds_toArray, List.set_cons_zero, List.set_cons_succ]
        refine wpAnyH_take (i := 14) (v := ?_) rfl (by kernel_rfl) (by kernel_rfl) (by kernel_rfl) (fun _ _ _ h => h) (Or.inl ⟨by rfl, ?_⟩) hHeld ?_
        rotate_left
        · intro W hSw
          go_simp
          try with_reducible rfl
        try simp only [Act.put, List.setIfInBounds_toArray, List.set_cons_zero, List.set_cons_succ]
        refine wpAnyH_take (i := 15) (v := ?_) rfl (by kernel_rfl) (by kernel_rfl) (by kernel_rfl) (fun _ _ _ h => h) (Or.inl ⟨by rfl, ?_⟩) hHeld ?_
        rotate_left
        · intro W hSw
          go_simp
          try with_reducible rfl
        try simp only [Act.put, List.setIfInBounds_toArray, List.set_cons_zero, List.set_cons_succ]
        refine wpAnyH_take (i := 16) (v := ?_) rfl (by kernel_rfl) (by kernel_rfl) (by kernel_rfl) (fun _ _ _ h => h) (Or.inl ⟨by rfl, ?_⟩) hHeld ?_
        rotate_left
        · intro W hSw
          go_simp
          try with_reducible rfl
        try simp only [Act.put, List.setIfInBounds_toArray, List.set_cons_zero, List.set_cons_succ]
        refine wpAnyH_take (i := 17) (v := ?_) rfl (by kernel_rfl) (by kernel_rfl) (by kernel_rfl) (fun _ _ _ h => h) (Or.inl ⟨by rfl, ?_⟩) hHeld ?_
        rotate_left
        · intro W hSw
          go_simp
          try with_reducible rfl
        try simp only [Act.put, List.setIfInBounds_toArray, List.set_cons_zero, List.set_cons_succ]
        refine wpAnyH_take (i := 18) (v := ?_) rfl (by kernel_rfl) (by kernel_rfl) (by kernel_rfl) (fun _ _ _ h => h) (Or.inl ⟨by rfl, ?_⟩) hHeld ?_
        rotate_left
        · intro W hSw
          go_simp
          try with_reducible rfl
        try simp only [Act.put, List.setIfInBounds_toArray, List.set_cons_zero, List.set_cons_succ]
        refine wpAnyH_take (i := 19) (v := ?_) rfl (by kernel_rfl) (by kernel_rfl) (by kernel_rfl) (fun _ _ _ h => h) (Or.inl ⟨by rfl, ?_⟩) hHeld ?_
        rotate_left
        · intro W hSw
          go_simp
          try with_reducible rfl
        try simp only [Act.put, List.setIfInBounds_toArray, List.set_cons_zero, List.set_cons_succ]
        refine wpAnyH_ready (rs := [1, 12]) (by kernel_rfl) (by simp) ?_
        refine AllReadyH.cons rfl (fun K hK => ?_) ?_
        · go_simp
          refine hK.out _ _ (by first | assumption | exact K0 | exact K0.drew | exact Elder.drew ‹_› | exact Elder.alloc ‹_› _ | exact (K0.alloc _).drew | exact ((K0.alloc _).alloc _).drew | exact K0.drew.alloc _) (fun hHeld => ?_)
          clear hK K
          try simp only [Act.put, List.setIfInBounds_toArray, List.set_cons_zero, List.set_cons_succ]
          refine wpAnyH_ready (rs := [8, 12]) (by kernel_rfl) (by simp) ?_
          refine AllReadyH.cons rfl (fun K hK => ?_) ?_
          · refine step_append_objs rfl (.tmp 32) (.tmp 38) (by rfl) w1.heap.size _ [] (by rfl) (objs_empty (by omega) (by first | exact heap_alloc_new _ _ | exact heap2_new _ _ _ | exact heap2_old _ _ _)) _ (S1.obs.take i) (by rfl) (HS1.out _ (HLW.out _ (by assumption))) (by rw [List.length_take, List.length_nil]; omega) (by first | (simp; done) | (simp; omega)) ?_
            intro a3 n3 c3 w3 hf3 hb3 hg3
            have hO3 : Elder w1 w3 := Elder.below (by assumption) hb3
            refine hK.out _ _ (by first | assumption | exact K0 | exact K0.drew | exact Elder.drew ‹_› | exact Elder.alloc ‹_› _ | exact (K0.alloc _).drew | exact ((K0.alloc _).alloc _).drew | exact K0.drew.alloc _) (fun hHeld => ?_)
            clear hK K
            try simp only [Act.put, List.setIfInBounds_toArray, List.set_cons_zero, List.set_cons_succ]
            refine wpAnyH_ready (rs := [12]) (by kernel_rfl) (by simp) ?_
            refine AllReadyH.cons rfl (fun K hK => ?_) ?_
            · go_simp
              refine hK.out _ _ (by first | assumption | exact K0 | exact K0.drew | exact Elder.drew ‹_› | exact Elder.alloc ‹_› _ | exact (K0.alloc _).drew | exact ((K0.alloc _).alloc _).drew | exact K0.drew.alloc _) (fun hHeld => ?_)
              clear hK K
              try simp only [Act.put, List.setIfInBounds_toArray, List.set_cons_zero, List.set_cons_succ]
              refine wpAnyH_ready (rs := [13]) (by kernel_rfl) (by simp) ?_
              refine AllReadyH.cons rfl (fun K hK => ?_) ?_
              · refine step_append_objs rfl (.tmp 39) (.tmp 43) (by rfl) w1.heap.size _ ([] ++ S1.obs.take i) (by rfl) (by first | exact hf3 | exact hf3.drew | exact hf3.alloc _ | exact (hf3.alloc _).drew) _ [⟨n, b⟩] (by rfl) (src_ob ⟨n, b⟩ _ _ (by first | exact heap_alloc_new _ _ | exact (hg3.block _ (by first | (simp; done) | (simp; omega)) (by first | (simp [Value.ownBlock]; done) | (simp [Value.ownBlock]; omega))).trans (heap2_new _ _ _) | exact (hg3.block _ (by first | (simp; done) | (simp; omega)) (by first | (simp [Value.ownBlock]; done) | (simp [Value.ownBlock]; omega))).trans (heap2_old _ _ _))) (by first | (simp; done) | (simp; omega)) (by have := hO3.size; first | (simp; omega) | (simp; done)) ?_
                intro a4 n4 c4 w4 hf4 hb4 hg4
                have hO4 : Elder w1 w4 := Elder.below (by assumption) hb4
                refine hK.out _ _ (by first | assumption | exact K0 | exact K0.drew | exact Elder.drew ‹_› | exact Elder.alloc ‹_› _ | exact (K0.alloc _).drew | exact ((K0.alloc _).alloc _).drew | exact K0.drew.alloc _) (fun hHeld => ?_)
                clear hK K
                try simp only [Act.put, List.setIfInBounds_toArray, List.set_cons_zero, List.set_cons_succ]
                refine wpAnyH_ready (rs := [20]) (by kernel_rfl) (by simp) ?_
                refine AllReadyH.cons rfl (fun K hK => ?_) ?_
                · refine step_append_objs rfl (.tmp 44) (.tmp 50) (by rfl) w1.heap.size _ ([] ++ S1.obs.take i ++ [⟨n, b⟩]) (by rfl) (by first | exact hf4 | exact hf4.drew) _ (S1.obs.drop i) (by rfl) (HS2.out _ (HLW.out _ (by assumption))) (by first | (simp; omega) | (simp; done)) (by have := hO4.size; first | (simp; omega) | (simp; done)) ?_
                  intro a5 n5 c5 w5 hf5 hb5 hg5
                  have hO5 : Elder w1 w5 := Elder.below (by assumption) hb5
                  refine hK.out _ _ (by first | assumption | exact K0 | exact K0.drew | exact Elder.drew ‹_› | exact Elder.alloc ‹_› _ | exact (K0.alloc _).drew | exact ((K0.alloc _).alloc _).drew | exact K0.drew.alloc _) (fun hHeld => ?_)
                  clear hK K
                  try simp only [Act.put, List.setIfInBounds_toArray, List.set_cons_zero, List.set_cons_succ]
                  refine wpAnyH_take (i := 21) (v := ?_) rfl (by kernel_rfl) (by kernel_rfl) (by kernel_rfl) (fun _ _ _ h => h) (Or.inl ⟨by rfl, ?_⟩) hHeld ?_
                  rotate_left
                  · intro W hSw
                    go_simp
                    try with_reducible rfl
                  try simp only [Act.put, List.setIfInBounds_toArray, List.set_cons_zero, List.set_cons_succ]
                  refine wpAnyH_take (i := 22) (v := ?_) rfl (by kernel_rfl) (by kernel_rfl) (by kernel_rfl) (fun _ _ _ h => h) (Or.inl ⟨by rfl, ?_⟩) hHeld ?_
                  rotate_left
                  · intro W hSw
                    go_simp
                    try with_reducible rfl
                  try simp only [Act.put, List.setIfInBounds_toArray, List.set_cons_zero, List.set_cons_succ]
                  refine wpAnyH_done (by kernel_rfl) ?_ _
                  have q0 := HQ0.out w5 hO5
                  have qf := HQf.out w5 hO5
                  unfold AtLast
                  refine wpOp_step rfl (fun K hK => ?_)
                  have HK := Lib.hid hK
                  clear hK
                  go_simp
                  refine HK.out _ _ ?_
                  clear HK K
                  go_wp2
                  go_end0
                  exact ⟨rfl, RfStep.laid (S := S1) HT.out H1.out hO5 hf5 HOK.out⟩
                exact AllReadyH.nil
              exact AllReadyH.nil
            exact AllReadyH.nil
          refine AllReadyH.cons rfl (fun K hK => ?_) ?_
          · go_simp
            refine hK.out _ _ (by first | assumption | exact K0 | exact K0.drew | exact Elder.drew ‹_› | exact Elder.alloc ‹_› _ | exact (K0.alloc _).drew | exact ((K0.alloc _).alloc _).drew | exact K0.drew.alloc _) (fun hHeld => ?_)
            clear hK K
            try simp only [Act.put, List.setIfInBounds_toArray, List.set_cons_zero, List.set_cons_succ]
            refine wpAnyH_ready (rs := [8]) (by kernel_rfl) (by simp) ?_
            refine AllReadyH.cons rfl (fun K hK => ?_) ?_
            · refine step_append_objs rfl (.tmp 32) (.tmp 38) (by rfl) w1.heap.size _ [] (by rfl) (objs_empty (by omega) (by first | exact heap_alloc_new _ _ | exact heap2_new _ _ _ | exact heap2_old _ _ _)) _ (S1.obs.take i) (by rfl) (HS1.out _ (HLW.out _ (by assumption))) (by rw [List.length_take, List.length_nil]; omega) (by first | (simp; done) | (simp; omega)) ?_
              intro a3 n3 c3 w3 hf3 hb3 hg3
              have hO3 : Elder w1 w3 := Elder.below (by assumption) hb3
              refine hK.out _ _ (by first | assumption | exact K0 | exact K0.drew | exact Elder.drew ‹_› | exact Elder.alloc ‹_› _ | exact (K0.alloc _).drew | exact ((K0.alloc _).alloc _).drew | exact K0.drew.alloc _) (fun hHeld => ?_)
              clear hK K
              try simp only [Act.put, List.setIfInBounds_toArray, List.set_cons_zero, List.set_cons_succ]
              refine wpAnyH_ready (rs := [13]) (by kernel_rfl) (by simp) ?_
              refine AllReadyH.cons rfl (fun K hK => ?_) ?_
              · refine step_append_objs rfl (.tmp 39) (.tmp 43) (by rfl) w1.heap.size _ ([] ++ S1.obs.take i) (by rfl) (by first | exact hf3 | exact hf3.drew | exact hf3.alloc _ | exact (hf3.alloc _).drew) _ [⟨n, b⟩] (by rfl) (src_ob ⟨n, b⟩ _ _ (by first | exact heap_alloc_new _ _ | exact (hg3.block _ (by first | (simp; done) | (simp; omega)) (by first | (simp [Value.ownBlock]; done) | (simp [Value.ownBlock]; omega))).trans (heap2_new _ _ _) | exact (hg3.block _ (by first | (simp; done) | (simp; omega)) (by first | (simp [Value.ownBlock]; done) | (simp [Value.ownBlock]; omega))).trans (heap2_old _ _ _))) (by first | (simp; done) | (simp; omega)) (by have := hO3.size; first | (simp; omega) | (simp; done)) ?_
                intro a4 n4 c4 w4 hf4 hb4 hg4
                have hO4 : Elder w1 w4 := Elder.below (by assumption) hb4
                refine hK.out _ _ (by first | assumption | exact K0 | exact K0.drew | exact Elder.drew ‹_› | exact Elder.alloc ‹_› _ | exact (K0.alloc _).drew | exact ((K0.alloc _).alloc _).drew | exact K0.drew.alloc _) (fun hHeld => ?_)
                clear hK K
                try simp only [Act.put, List.setIfInBounds_toArray, List.set_cons_zero, List.set_cons_succ]
                refine wpAnyH_ready (rs := [20]) (by kernel_rfl) (by simp) ?_
                refine AllReadyH.cons rfl (fun K hK => ?_) ?_
                · refine step_append_objs rfl (.tmp 44) (.tmp 50) (by rfl) w1.heap.size _ ([] ++ S1.obs.take i ++ [⟨n, b⟩]) (by rfl) (by first | exact hf4 | exact hf4.drew) _ (S1.obs.drop i) (by rfl) (HS2.out _ (HLW.out _ (by assumption))) (by first | (simp; omega) | (simp; done)) (by have := hO4.size; first | (simp; omega) | (simp; done)) ?_
                  intro a5 n5 c5 w5 hf5 hb5 hg5
                  have hO5 : Elder w1 w5 := Elder.below (by assumption) hb5
                  refine hK.out _ _ (by first | assumption | exact K0 | exact K0.drew | exact Elder.drew ‹_› | exact Elder.alloc ‹_› _ | exact (K0.alloc _).drew | exact ((K0.alloc _).alloc _).drew | exact K0.drew.alloc _) (fun hHeld => ?_)
                  clear hK K
                  try simp only [Act.put, List.setIfInBounds_toArray, List.set_cons_zero, List.set_cons_succ]
                  refine wpAnyH_take (i := 21) (v := ?_) rfl (by kernel_rfl) (by kernel_rfl) (by kernel_rfl) (fun _ _ _ h => h) (Or.inl ⟨by rfl, ?_⟩) hHeld ?_
                  rotate_left
                  · intro W hSw
                    go_simp
                    try with_reducible rfl
                  try simp only [Act.put, List.setIfInBounds_toArray, List.set_cons_zero, List.set_cons_succ]
                  refine wpAnyH_take (i := 22) (v := ?_) rfl (by kernel_rfl) (by kernel_rfl) (by kernel_rfl) (fun _ _ _ h => h) (Or.inl ⟨by rfl, ?_⟩) hHeld ?_
                  rotate_left
                  · intro W hSw
                    go_simp
                    try with_reducible rfl
                  try simp only [Act.put, List.setIfInBounds_toArray, List.set_cons_zero, List.set_cons_succ]
                  refine wpAnyH_done (by kernel_rfl) ?_ _
                  have q0 := HQ0.out w5 hO5
                  have qf := HQf.out w5 hO5
                  unfold AtLast
                  refine wpOp_step rfl (fun K hK => ?_)
                  have HK := Lib.hid hK
                  clear hK
                  go_simp
                  refine HK.out _ _ ?_
                  clear HK K
                  go_wp2
                  go_end0
                  exact ⟨rfl, RfStep.laid (S := S1) HT.out H1.out hO5 hf5 HOK.out⟩
                exact AllReadyH.nil
              exact AllReadyH.nil
            exact AllReadyH.nil
          exact AllReadyH.nil
        refine AllReadyH.cons rfl (fun K hK => ?_) ?_
        · go_simp
          refine hK.out _ _ (by first | assumption | exact K0 | exact K0.drew | exact Elder.drew ‹_› | exact Elder.alloc ‹_› _ | exact (K0.alloc _).drew | exact ((K0.alloc _).alloc _).drew | exact K0.drew.alloc _) (fun hHeld => ?_)
          clear hK K
          try simp only [Act.put, List.setIfInBounds_toArray, List.set_cons_zero, List.set_cons_succ]
          refine wpAnyH_ready (rs := [1]) (by kernel_rfl) (by simp) ?_
          refine AllReadyH.cons rfl (fun K hK => ?_) ?_
          · go_simp
            refine hK.out _ _ (by first | assumption | exact K0 | exact K0.drew | exact Elder.drew ‹_› | exact Elder.alloc ‹_› _ | exact (K0.alloc _).drew | exact ((K0.alloc _).alloc _).drew | exact K0.drew.alloc _) (fun hHeld => ?_)
            clear hK K
            try simp only [Act.put, List.setIfInBounds_toArray, List.set_cons_zero, List.set_cons_succ]
            refine wpAnyH_ready (rs := [8]) (by kernel_rfl) (by simp) ?_
            refine AllReadyH.cons rfl (fun K hK => ?_) ?_
            · refine step_append_objs rfl (.tmp 32) (.tmp 38) (by rfl) w1.heap.size _ [] (by rfl) (objs_empty (by omega) (by first | exact heap_alloc_new _ _ | exact heap2_new _ _ _ | exact heap2_old _ _ _)) _ (S1.obs.take i) (by rfl) (HS1.out _ (HLW.out _ (by assumption))) (by rw [List.length_take, List.length_nil]; omega) (by first | (simp; done) | (simp; omega)) ?_
              intro a3 n3 c3 w3 hf3 hb3 hg3
              have hO3 : Elder w1 w3 := Elder.below (by assumption) hb3
              refine hK.out _ _ (by first | assumption | exact K0 | exact K0.drew | exact Elder.drew ‹_› | exact Elder.alloc ‹_› _ | exact (K0.alloc _).drew | exact ((K0.alloc _).alloc _).drew | exact K0.drew.alloc _) (fun hHeld => ?_)
              clear hK K
              try simp only [Act.put, List.setIfInBounds_toArray, List.set_cons_zero, List.set_cons_succ]
              refine wpAnyH_ready (rs := [13]) (by kernel_rfl) (by simp) ?_
              refine AllReadyH.cons rfl (fun K hK => ?_) ?_
              · refine step_append_objs rfl (.tmp 39) (.tmp 43) (by rfl) w1.heap.size _ ([] ++ S1.obs.take i) (by rfl) (by first | exact hf3 | exact hf3.drew | exact hf3.alloc _ | exact (hf3.alloc _).drew) _ [⟨n, b⟩] (by rfl) (src_ob ⟨n, b⟩ _ _ (by first | exact heap_alloc_new _ _ | exact (hg3.block _ (by first | (simp; done) | (simp; omega)) (by first | (simp [Value.ownBlock]; done) | (simp [Value.ownBlock]; omega))).trans (heap2_new _ _ _) | exact (hg3.block _ (by first | (simp; done) | (simp; omega)) (by first | (simp [Value.ownBlock]; done) | (simp [Value.ownBlock]; omega))).trans (heap2_old _ _ _))) (by first | (simp; done) | (simp; omega)) (by have := hO3.size; first | (simp; omega) | (simp; done)) ?_
                intro a4 n4 c4 w4 hf4 hb4 hg4
                have hO4 : Elder w1 w4 := Elder.below (by assumption) hb4
                refine hK.out _ _ (by first | assumption | exact K0 | exact K0.drew | exact Elder.drew ‹_› | exact Elder.alloc ‹_› _ | exact (K0.alloc _).drew | exact ((K0.alloc _).alloc _).drew | exact K0.drew.alloc _) (fun hHeld => ?_)
                clear hK K
                try simp only [Act.put, List.setIfInBounds_toArray, List.set_cons_zero, List.set_cons_succ]
                refine wpAnyH_ready (rs := [20]) (by kernel_rfl) (by simp) ?_
                refine AllReadyH.cons rfl (fun K hK => ?_) ?_
                · refine step_append_objs rfl (.tmp 44) (.tmp 50) (by rfl) w1.heap.size _ ([] ++ S1.obs.take i ++ [⟨n, b⟩]) (by rfl) (by first | exact hf4 | exact hf4.drew) _ (S1.obs.drop i) (by rfl) (HS2.out _ (HLW.out _ (by assumption))) (by first | (simp; omega) | (simp; done)) (by have := hO4.size; first | (simp; omega) | (simp; done)) ?_
                  intro a5 n5 c5 w5 hf5 hb5 hg5
                  have hO5 : Elder w1 w5 := Elder.below (by assumption) hb5
                  refine hK.out _ _ (by first | assumption | exact K0 | exact K0.drew | exact Elder.drew ‹_› | exact Elder.alloc ‹_› _ | exact (K0.alloc _).drew | exact ((K0.alloc _).alloc _).drew | exact K0.drew.alloc _) (fun hHeld => ?_)
                  clear hK K
                  try simp only [Act.put, List.setIfInBounds_toArray, List.set_cons_zero, List.set_cons_succ]
                  refine wpAnyH_take (i := 21) (v := ?_) rfl (by kernel_rfl) (by kernel_rfl) (by kernel_rfl) (fun _ _ _ h => h) (Or.inl ⟨by rfl, ?_⟩) hHeld ?_
                  rotate_left
                  · intro W hSw
                    go_simp
                    try with_reducible rfl
                  try simp only [Act.put, List.setIfInBounds_toArray, List.set_cons_zero, List.set_cons_succ]
                  refine wpAnyH_take (i := 22) (v := ?_) rfl (by kernel_rfl) (by kernel_rfl) (by kernel_rfl) (fun _ _ _ h => h) (Or.inl ⟨by rfl, ?_⟩) hHeld ?_
                  rotate_left
                  · intro W hSw
                    go_simp
                    try with_reducible rfl
                  try simp only [Act.put, List.setIfInBounds_toArray, List.set_cons_zero, List.set_cons_succ]
                  refine wpAnyH_done (by kernel_rfl) ?_ _
                  have q0 := HQ0.out w5 hO5
                  have qf := HQf.out w5 hO5
                  unfold AtLast
                  refine wpOp_step rfl (fun K hK => ?_)
                  have HK := Lib.hid hK
                  clear hK
                  go_simp
                  refine HK.out _ _ ?_
                  clear HK K
                  go_wp2
                  go_end0
                  exact ⟨rfl, RfStep.laid (S := S1) HT.out H1.out hO5 hf5 HOK.out⟩
                exact AllReadyH.nil
              exact AllReadyH.nil
            exact AllReadyH.nil
          exact AllReadyH.nil
        exact AllReadyH.nil
    · obtain rfl : i = p := by omega
      obtain rfl : i = L := by omega
      rw [Nat.sub_self] at htail
      have hs2' := HS2.out
      rw [Nat.sub_self] at hs2'
      have HS2' := Lib.hid hs2'
      clear hs2' HS2
      go_wp2
      clear c0
      have hq2 := (h1.lt (Or.inl rfl)).2
      obtain ⟨q0, q1, q2, qz⟩ := h1.cells
      have hQ0 : ∀ W, Elder w1 W → W.cell? ⟨qb, 0, none⟩ = some (Value.slice la i lc) := fun W hW => by rw [Below.cell (p := ⟨qb, 0, none⟩) hW hq2]; exact q0
      have hQf : ∀ W, Elder w1 W → W.frozen? ⟨qb, 0, none⟩ = false := fun W hW => by rw [Below.frozen (p := ⟨qb, 0, none⟩) hW hq2]; exact qz 0
      have K0 : Elder w1 w1 := Elder.refl _
      have hl9 : S1.obs.length ≤ 1000000000 := by have := HL.out; omega
      have HQ0 := Lib.hid hQ0; have HQf := Lib.hid hQf; have H1 := Lib.hid h1
      clear q1 q2 qz h1 hQf
      refine wp_region_last (S := Elder w1) (k := 23) (by kernel_rfl) rfl (by kernel_rfl) (by kernel_rfl) (by kernel_rfl) ?_
      have hHeld : Elder w1 w1.drew := K0.drew
      refine wpAnyH_take (i := 0) (v := ?_) rfl (by kernel_rfl) (by kernel_rfl) (by kernel_rfl) (fun _ _ _ h => h) (Or.inl ⟨by rfl, ?_⟩) hHeld ?_
      rotate_left
      · intro W hSw
        go_simp
        try with_reducible rfl
      try simp only [Act.put, List.setIfInBounds_toArray, List.set_cons_zero, List.set_cons_succ]
      refine wpAnyH_take (i := 2) (v := ?_) rfl (by kernel_rfl) (by kernel_rfl) (by kernel_rfl) (fun _ _ _ h => h) (Or.inl ⟨by rfl, ?_⟩) hHeld ?_
      rotate_left
      · intro W hSw
        go_simp
        try with_reducible rfl
      try simp only [Act.put, List.setIfInBounds_toArray, List.set_cons_zero, List.set_cons_succ]
      refine wpAnyH_take (i := 3) (v := ?_) rfl (by kernel_rfl) (by kernel_rfl) (by kernel_rfl) (fun _ _ _ h => h) (Or.inl ⟨by rfl, ?_⟩) hHeld ?_
      rotate_left
      · intro W hSw
        go_simp
        try with_reducible rfl
      try simp only [Act.put, List.setIfInBounds_toArray, List.set_cons_zero, List.set_cons_succ]
      refine wpAnyH_take (i := 4) (v := ?_) rfl (by kernel_rfl) (by kernel_rfl) (by kernel_rfl) (fun _ _ _ h => h) (Or.inl ⟨by rfl, ?_⟩) hHeld ?_
      rotate_left
      · intro W hSw
        go_simp
        try with_reducible rfl
      try simp only [Act.put, List.setIfInBounds_toArray, List.set_cons_zero, List.set_cons_succ]
      refine wpAnyH_take (i := 5) (v := ?_) rfl (by kernel_rfl) (by kernel_rfl) (by kernel_rfl) (fun _ _ _ h => h) (Or.inl ⟨by rfl, ?_⟩) hHeld ?_
      rotate_left
      · intro W hSw
        go_simp
        try with_reducible rfl
      try simp only [Act.put, List.setIfInBounds_toArray, List.set_cons_zero, List.set_cons_succ]
      refine wpAnyH_take (i := 6) (v := ?_) rfl (by kernel_rfl) (by kernel_rfl) (by kernel_rfl) (fun _ _ _ h => h) (Or.inl ⟨by rfl, ?_⟩) hHeld ?_
      rotate_left
      · intro W hSw
        go_simp
        try with_reducible rfl
      try simp only [Act.put, List.setIfInBounds_toArray, List.set_cons_zero, List.set_cons_succ]
      refine wpAnyH_take (i := 7) (v := ?_) rfl (by kernel_rfl) (by kernel_rfl) (by kernel_rfl) (fun _ _ _ h => h) (Or.inl ⟨by rfl, ?_⟩) hHeld ?_
      rotate_left
      · intro W hSw
        go_simp
        try with_reducible rfl
      try simp only [Act.put, List.setIfInBounds_toArray, List.set_cons_zero, List.set_cons_succ]
      refine wpAnyH_take (i := 9) (v := ?_) rfl (by kernel_rfl) (by kernel_rfl) (by kernel_rfl) (fun _ _ _ h => h) (Or.inl ⟨by rfl, ?_⟩) hHeld ?_
      rotate_left
      · intro W hSw
        go_simp
        try with_reducible rfl
      try simp only [Act.put, List.setIfInBounds_toArray, List.set_cons_zero, List.set_cons_succ]
      refine wpAnyH_take (i := 10) (v := ?_) rfl (by kernel_rfl) (by kernel_rfl) (by kernel_rfl) (fun _ _ _ h => h) (Or.inl ⟨by rfl, ?_⟩) hHeld ?_
      rotate_left
      · intro W hSw
        go_simp
        try with_reducible rfl
      try simp only [Act.put, List.setIfInBounds_toArray, List.set_cons_zero, List.set_cons_succ]
      refine wpAnyH_take (i := 11) (v := ?_) rfl (by kernel_rfl) (by kernel_rfl) (by kernel_rfl) (fun _ _ _ h => h) (Or.inl ⟨by rfl, ?_⟩) hHeld ?_
      rotate_left
      · intro W hSw
        go_simp
        try with_reducible rfl
      try simp only [Act.put, List.setIfInBounds_toArray, List.set_cons_zero, List.set_cons_succ]
      refine wpAnyH_take (i := 14) (v := ?_) rfl (by kernel_rfl) (by kernel_rfl) (by kernel_rfl) (fun _ _ _ h => h) (Or.inl ⟨by rfl, ?_⟩) hHeld ?_
      rotate_left
      · intro W hSw
        go_simp
        try with_reducible rfl
      try simp only [Act.put, List.setIfInBounds_toArray, List.set_cons_zero, List.set_cons_succ]
      refine wpAnyH_take (i := 15) (v := ?_) rfl (by kernel_rfl) (by kernel_rfl) (by kernel_rfl) (fun _ _ _ h => h) (Or.inl ⟨by rfl, ?_⟩) hHeld ?_
      rotate_left
      · intro W hSw
        go_simp
        try with_reducible rfl
      try simp only [Act.put, List.setIfInBounds_toArray, List.set_cons_zero, List.set_cons_succ]
      refine wpAnyH_take (i := 16) (v := ?_) rfl (by kernel_rfl) (by kernel_rfl) (by kernel_rfl) (fun _ _ _ h => h) (Or.inl ⟨by rfl, ?_⟩) hHeld ?_
      rotate_left
      · intro W hSw
        go_simp
        try with_reducible rfl
      try simp only [Act.put, List.setIfInBounds_toArray, List.set_cons_zero, List.set_cons_succ]
      refine wpAnyH_take (i := 17) (v := ?_) rfl (by kernel_rfl) (by kernel_rfl) (by kernel_rfl) (fun _ _ _ h => h) (Or.inl ⟨by rfl, ?_⟩) hHeld ?_
      rotate_left
      · intro W hSw
        go_simp
        try with_reducible rfl
      try simp only [Act.put, List.setIfInBounds_toArray, List.set_cons_zero, List.set_cons_succ]
      refine wpAnyH_take (i := 18) (v := ?_) rfl (by kernel_rfl) (by kernel_rfl) (by kernel_rfl) (fun _ _ _ h => h) (Or.inl ⟨by rfl, ?_⟩) hHeld ?_
      rotate_left
      · intro W hSw
        go_simp
        try with_reducible rfl
      try simp only [Act.put, List.setIfInBounds_toArray, List.set_cons_zero, List.set_cons_succ]
      refine wpAnyH_take (i := 19) (v := ?_) rfl (by kernel_rfl) (by kernel_rfl) (by kernel_rfl) (fun _ _ _ h => h) (Or.inl ⟨by rfl, ?_⟩) hHeld ?_
      rotate_left
      · intro W hSw
        go_simp
        try with_reducible rfl
      try simp only [Act.put, List.setIfInBounds_toArray, List.set_cons_zero, List.set_cons_succ]
      refine wpAnyH_ready (rs := [1, 12]) (by kernel_rfl) (by simp) ?_
      refine AllReadyH.cons rfl (fun K hK => ?_) ?_
      · go_simp
        refine hK.out _ _ (by first | assumption | exact K0 | exact K0.drew | exact Elder.drew ‹_› | exact Elder.alloc ‹_› _ | exact (K0.alloc _).drew | exact ((K0.alloc _).alloc _).drew | exact K0.drew.alloc _) (fun hHeld => ?_)
        clear hK K
        try simp only [Act.put, List.setIfInBounds_toArray, List.set_cons_zero, List.set_cons_succ]
        refine wpAnyH_ready (rs := [8, 12]) (by kernel_rfl) (by simp) ?_
        refine AllReadyH.cons rfl (fun K hK => ?_) ?_
        · refine step_append_objs rfl (.tmp 32) (.tmp 38) (by rfl) w1.heap.size _ [] (by rfl) (objs_empty (by omega) (by first | exact heap_alloc_new _ _ | exact heap2_new _ _ _ | exact heap2_old _ _ _)) _ (S1.obs.take i) (by rfl) (HS1.out _ (HLW.out _ (by assumption))) (by rw [List.length_take, List.length_nil]; omega) (by first | (simp; done) | (simp; omega)) ?_
          intro a3 n3 c3 w3 hf3 hb3 hg3
          have hO3 : Elder w1 w3 := Elder.below (by assumption) hb3
          refine hK.out _ _ (by first | assumption | exact K0 | exact K0.drew | exact Elder.drew ‹_› | exact Elder.alloc ‹_› _ | exact (K0.alloc _).drew | exact ((K0.alloc _).alloc _).drew | exact K0.drew.alloc _) (fun hHeld => ?_)
          clear hK K
          try simp only [Act.put, List.setIfInBounds_toArray, List.set_cons_zero, List.set_cons_succ]
          refine wpAnyH_ready (rs := [12]) (by kernel_rfl) (by simp) ?_
          refine AllReadyH.cons rfl (fun K hK => ?_) ?_
          · go_simp
            refine hK.out _ _ (by first | assumption | exact K0 | exact K0.drew | exact Elder.drew ‹_› | exact Elder.alloc ‹_› _ | exact (K0.alloc _).drew | exact ((K0.alloc _).alloc _).drew | exact K0.drew.alloc _) (fun hHeld => ?_)
            clear hK K
            try simp only [Act.put, List.setIfInBounds_toArray, List.set_cons_zero, List.set_cons_succ]
            refine wpAnyH_ready (rs := [13]) (by kernel_rfl) (by simp) ?_
            refine AllReadyH.cons rfl (fun K hK => ?_) ?_
            · refine step_append_objs rfl (.tmp 39) (.tmp 43) (by rfl) w1.heap.size _ ([] ++ S1.obs.take i) (by rfl) (by first | exact hf3 | exact hf3.drew | exact hf3.alloc _ | exact (hf3.alloc _).drew) _ [⟨n, b⟩] (by rfl) (src_ob ⟨n, b⟩ _ _ (by first | exact heap_alloc_new _ _ | exact (hg3.block _ (by first | (simp; done) | (simp; omega)) (by first | (simp [Value.ownBlock]; done) | (simp [Value.ownBlock]; omega))).trans (heap2_new _ _ _) | exact (hg3.block _ (by first | (simp; done) | (simp; omega)) (by first | (simp [Value.ownBlock]; done) | (simp [Value.ownBlock]; omega))).trans (heap2_old _ _ _))) (by first | (simp; done) | (simp; omega)) (by have := hO3.size; first | (simp; omega) | (simp; done)) ?_
              intro a4 n4 c4 w4 hf4 hb4 hg4
              have hO4 : Elder w1 w4 := Elder.below (by assumption) hb4
              refine hK.out _ _ (by first | assumption | exact K0 | exact K0.drew | exact Elder.drew ‹_› | exact Elder.alloc ‹_› _ | exact (K0.alloc _).drew | exact ((K0.alloc _).alloc _).drew | exact K0.drew.alloc _) (fun hHeld => ?_)
              clear hK K
              try simp only [Act.put, List.setIfInBounds_toArray, List.set_cons_zero, List.set_cons_succ]
              refine wpAnyH_ready (rs := [20]) (by kernel_rfl) (by simp) ?_
              refine AllReadyH.cons rfl (fun K hK => ?_) ?_
              · refine step_append_objs rfl (.tmp 44) (.tmp 50) (by rfl) w1.heap.size _ ([] ++ S1.obs.take i ++ [⟨n, b⟩]) (by rfl) (by first | exact hf4 | exact hf4.drew) _ (S1.obs.drop i) (by rfl) (HS2'.out _ (HLW.out _ (by assumption))) (by first | (simp; omega) | (simp; done)) (by have := hO4.size; first | (simp; omega) | (simp; done)) ?_
                intro a5 n5 c5 w5 hf5 hb5 hg5
                have hO5 : Elder w1 w5 := Elder.below (by assumption) hb5
                refine hK.out _ _ (by first | assumption | exact K0 | exact K0.drew | exact Elder.drew ‹_› | exact Elder.alloc ‹_› _ | exact (K0.alloc _).drew | exact ((K0.alloc _).alloc _).drew | exact K0.drew.alloc _) (fun hHeld => ?_)
                clear hK K
                try simp only [Act.put, List.setIfInBounds_toArray, List.set_cons_zero, List.set_cons_succ]
                refine wpAnyH_take (i := 21) (v := ?_) rfl (by kernel_rfl) (by kernel_rfl) (by kernel_rfl) (fun _ _ _ h => h) (Or.inl ⟨by rfl, ?_⟩) hHeld ?_
                rotate_left
                · intro W hSw
                  go_simp
                  try with_reducible rfl
                try simp only [Act.put, List.setIfInBounds_toArray, List.set_cons_zero, List.set_cons_succ]
                refine wpAnyH_take (i := 22) (v := ?_) rfl (by kernel_rfl) (by kernel_rfl) (by kernel_rfl) (fun _ _ _ h => h) (Or.inl ⟨by rfl, ?_⟩) hHeld ?_
                rotate_left
                · intro W hSw
                  go_simp
                  try with_reducible rfl
                try simp only [Act.put, List.setIfInBounds_toArray, List.set_cons_zero, List.set_cons_succ]
                refine wpAnyH_done (by kernel_rfl) ?_ _
                have q0 := HQ0.out w5 hO5
                have qf := HQf.out w5 hO5
                unfold AtLast
                refine wpOp_step rfl (fun K hK => ?_)
                have HK := Lib.hid hK
                clear hK
                go_simp
                refine HK.out _ _ ?_
                clear HK K
                go_wp2
                go_end0
                exact ⟨rfl, RfStep.laid (S := S1) HT.out H1.out hO5 hf5 HOK.out⟩
              exact AllReadyH.nil
            exact AllReadyH.nil
          exact AllReadyH.nil
        refine AllReadyH.cons rfl (fun K hK => ?_) ?_
        · go_simp
          refine hK.out _ _ (by first | assumption | exact K0 | exact K0.drew | exact Elder.drew ‹_› | exact Elder.alloc ‹_› _ | exact (K0.alloc _).drew | exact ((K0.alloc _).alloc _).drew | exact K0.drew.alloc _) (fun hHeld => ?_)
          clear hK K
          try simp only [Act.put, List.setIfInBounds_toArray, List.set_cons_zero, List.set_cons_succ]
          refine wpAnyH_ready (rs := [8]) (by kernel_rfl) (by simp) ?_
          refine AllReadyH.cons rfl (fun K hK => ?_) ?_
          · refine step_append_objs rfl (.tmp 32) (.tmp 38) (by rfl) w1.heap.size _ [] (by rfl) (objs_empty (by omega) (by first | exact heap_alloc_new _ _ | exact heap2_new _ _ _ | exact heap2_old _ _ _)) _ (S1.obs.take i) (by rfl) (HS1.out _ (HLW.out _ (by assumption))) (by rw [List.length_take, List.length_nil]; omega) (by first | (simp; done) | (simp; omega)) ?_
            intro a3 n3 c3 w3 hf3 hb3 hg3
            have hO3 : Elder w1 w3 := Elder.below (by assumption) hb3
            refine hK.out _ _ (by first | assumption | exact K0 | exact K0.drew | exact Elder.drew ‹_› | exact Elder.alloc ‹_› _ | exact (K0.alloc _).drew | exact ((K0.alloc _).alloc _).drew | exact K0.drew.alloc _) (fun hHeld => ?_)
            clear hK K
            try simp only [Act.put, List.setIfInBounds_toArray, List.set_cons_zero, List.set_cons_succ]
            refine wpAnyH_ready (rs := [13]) (by kernel_rfl) (by simp) ?_
            refine AllReadyH.cons rfl (fun K hK => ?_) ?_
            · refine step_append_objs rfl (.tmp 39) (.tmp 43) (by rfl) w1.heap.size _ ([] ++ S1.obs.take i) (by rfl) (by first | exact hf3 | exact hf3.drew | exact hf3.alloc _ | exact (hf3.alloc _).drew) _ [⟨n, b⟩] (by rfl) (src_ob ⟨n, b⟩ _ _ (by first | exact heap_alloc_new _ _ | exact (hg3.block _ (by first | (simp; done) | (simp; omega)) (by first | (simp [Value.ownBlock]; done) | (simp [Value.ownBlock]; omega))).trans (heap2_new _ _ _) | exact (hg3.block _ (by first | (simp; done) | (simp; omega)) (by first | (simp [Value.ownBlock]; done) | (simp [Value.ownBlock]; omega))).trans (heap2_old _ _ _))) (by first | (simp; done) | (simp; omega)) (by have := hO3.size; first | (simp; omega) | (simp; done)) ?_
              intro a4 n4 c4 w4 hf4 hb4 hg4
              have hO4 : Elder w1 w4 := Elder.below (by assumption) hb4
              refine hK.out _ _ (by first | assumption | exact K0 | exact K0.drew | exact Elder.drew ‹_› | exact Elder.alloc ‹_› _ | exact (K0.alloc _).drew | exact ((K0.alloc _).alloc _).drew | exact K0.drew.alloc _) (fun hHeld => ?_)
              clear hK K
              try simp only [Act.put, List.setIfInBounds_toArray, List.set_cons_zero, List.set_cons_succ]
              refine wpAnyH_ready (rs := [20]) (by kernel_rfl) (by simp) ?_
              refine AllReadyH.cons rfl (fun K hK => ?_) ?_
              · refine step_append_objs rfl (.tmp 44) (.tmp 50) (by rfl) w1.heap.size _ ([] ++ S1.obs.take i ++ [⟨n, b⟩]) (by rfl) (by first | exact hf4 | exact hf4.drew) _ (S1.obs.drop i) (by rfl) (HS2'.out _ (HLW.out _ (by assumption))) (by first | (simp; omega) | (simp; done)) (by have := hO4.size; first | (simp; omega) | (simp; done)) ?_
                intro a5 n5 c5 w5 hf5 hb5 hg5
                have hO5 : Elder w1 w5 := Elder.below (by assumption) hb5
                refine hK.out _ _ (by first | assumption | exact K0 | exact K0.drew | exact Elder.drew ‹_› | exact Elder.alloc ‹_› _ | exact (K0.alloc _).drew | exact ((K0.alloc _).alloc _).drew | exact K0.drew.alloc _) (fun hHeld => ?_)
                clear hK K
                try simp only [Act.put, List.setIfInBounds_toArray, List.set_cons_zero, List.set_cons_succ]
                refine wpAnyH_take (i := 21) (v := ?_) rfl (by kernel_rfl) (by kernel_rfl) (by kernel_rfl) (fun _ _ _ h => h) (Or.inl ⟨by rfl, ?_⟩) hHeld ?_
                rotate_left
                · intro W hSw
                  go_simp
                  try with_reducible rfl
                try simp only [Act.put, List.setIfInBounds_toArray, List.set_cons_zero, List.set_cons_succ]
                refine wpAnyH_take (i := 22) (v := ?_) rfl (by kernel_rfl) (by kernel_rfl) (by kernel_rfl) (fun _ _ _ h => h) (Or.inl ⟨by rfl, ?_⟩) hHeld ?_
                rotate_left
                · intro W hSw
                  go_simp
                  try with_reducible rfl
                try simp only [Act.put, List.setIfInBounds_toArray, List.set_cons_zero, List.set_cons_succ]
                refine wpAnyH_done (by kernel_rfl) ?_ _
                have q0 := HQ0.out w5 hO5
                have qf := HQf.out w5 hO5
                unfold AtLast
                refine wpOp_step rfl (fun K hK => ?_)
                have HK := Lib.hid hK
                clear hK
                go_simp
                refine HK.out _ _ ?_
                clear HK K
                go_wp2
                go_end0
                exact ⟨rfl, RfStep.laid (S := S1) HT.out H1.out hO5 hf5 HOK.out⟩
              exact AllReadyH.nil
            exact AllReadyH.nil
          exact AllReadyH.nil
        exact AllReadyH.nil
      refine AllReadyH.cons rfl (fun K hK => ?_) ?_
      · go_simp
        refine hK.out _ _ (by first | assumption | exact K0 | exact K0.drew | exact Elder.drew ‹_› | exact Elder.alloc ‹_› _ | exact (K0.alloc _).drew | exact ((K0.alloc _).alloc _).drew | exact K0.drew.alloc _) (fun hHeld => ?_)
        clear hK K
        try simp only [Act.put, List.setIfInBounds_toArray, List.set_cons_zero, List.set_cons_succ]
        refine wpAnyH_ready (rs := [1]) (by kernel_rfl) (by simp) ?_
        refine AllReadyH.cons rfl (fun K hK => ?_) ?_
        · go_simp
          refine hK.out _ _ (by first | assumption | exact K0 | exact K0.drew | exact Elder.drew ‹_› | exact Elder.alloc ‹_› _ | exact (K0.alloc _).drew | exact ((K0.alloc _).alloc _).drew | exact K0.drew.alloc _) (fun hHeld => ?_)
          clear hK K
          try simp only [Act.put, List.setIfInBounds_toArray, List.set_cons_zero, List.set_cons_succ]
          refine wpAnyH_ready (rs := [8]) (by kernel_rfl) (by simp) ?_
          refine AllReadyH.cons rfl (fun K hK => ?_) ?_
          · refine step_append_objs rfl (.tmp 32) (.tmp 38) (by rfl) w1.heap.size _ [] (by rfl) (objs_empty (by omega) (by first | exact heap_alloc_new _ _ | exact heap2_new _ _ _ | exact heap2_old _ _ _)) _ (S1.obs.take i) (by rfl) (HS1.out _ (HLW.out _ (by assumption))) (by rw [List.length_take, List.length_nil]; omega) (by first | (simp; done) | (simp; omega)) ?_
            intro a3 n3 c3 w3 hf3 hb3 hg3
            have hO3 : Elder w1 w3 := Elder.below (by assumption) hb3
            refine hK.out _ _ (by first | assumption | exact K0 | exact K0.drew | exact Elder.drew ‹_› | exact Elder.alloc ‹_› _ | exact (K0.alloc _).drew | exact ((K0.alloc _).alloc _).drew | exact K0.drew.alloc _) (fun hHeld => ?_)
            clear hK K
            try simp only [Act.put, List.setIfInBounds_toArray, List.set_cons_zero, List.set_cons_succ]
            refine wpAnyH_ready (rs := [13]) (by kernel_rfl) (by simp) ?_
            refine AllReadyH.cons rfl (fun K hK => ?_) ?_
            · refine step_append_objs rfl (.tmp 39) (.tmp 43) (by rfl) w1.heap.size _ ([] ++ S1.obs.take i) (by rfl) (by first | exact hf3 | exact hf3.drew | exact hf3.alloc _ | exact (hf3.alloc _).drew) _ [⟨n, b⟩] (by rfl) (src_ob ⟨n, b⟩ _ _ (by first | exact heap_alloc_new _ _ | exact (hg3.block _ (by first | (simp; done) | (simp; omega)) (by first | (simp [Value.ownBlock]; done) | (simp [Value.ownBlock]; omega))).trans (heap2_new _ _ _) | exact (hg3.block _ (by first | (simp; done) | (simp; omega)) (by first | (simp [Value.ownBlock]; done) | (simp [Value.ownBlock]; omega))).trans (heap2_old _ _ _))) (by first | (simp; done) | (simp; omega)) (by have := hO3.size; first | (simp; omega) | (simp; done)) ?_
              intro a4 n4 c4 w4 hf4 hb4 hg4
              have hO4 : Elder w1 w4 := Elder.below (by assumption) hb4
              refine hK.out _ _ (by first | assumption | exact K0 | exact K0.drew | exact Elder.drew ‹_› | exact Elder.alloc ‹_› _ | exact (K0.alloc _).drew | exact ((K0.alloc _).alloc _).drew | exact K0.drew.alloc _) (fun hHeld => ?_)
              clear hK K
              try simp only [Act.put, List.setIfInBounds_toArray, List.set_cons_zero, List.set_cons_succ]
              refine wpAnyH_ready (rs := [20]) (by kernel_rfl) (by simp) ?_
              refine AllReadyH.cons rfl (fun K hK => ?_) ?_
              · refine step_append_objs rfl (.tmp 44) (.tmp 50) (by rfl) w1.heap.size _ ([] ++ S1.obs.take i ++ [⟨n, b⟩]) (by rfl) (by first | exact hf4 | exact hf4.drew) _ (S1.obs.drop i) (by rfl) (HS2'.out _ (HLW.out _ (by assumption))) (by first | (simp; omega) | (simp; done)) (by have := hO4.size; first | (simp; omega) | (simp; done)) ?_
                intro a5 n5 c5 w5 hf5 hb5 hg5
                have hO5 : Elder w1 w5 := Elder.below (by assumption) hb5
                refine hK.out _ _ (by first | assumption | exact K0 | exact K0.drew | exact Elder.drew ‹_› | exact Elder.alloc ‹_› _ | exact (K0.alloc _).drew | exact ((K0.alloc _).alloc _).drew | exact K0.drew.alloc _) (fun hHeld => ?_)
                clear hK K
                try simp only [Act.put, List.setIfInBounds_toArray, List.set_cons_zero, List.set_cons_succ]
                refine wpAnyH_take (i := 21) (v := ?_) rfl (by kernel_rfl) (by kernel_rfl) (by kernel_rfl) (fun _ _ _ h => h) (Or.inl ⟨by rfl, ?_⟩) hHeld ?_
                rotate_left
                · intro W hSw
                  go_simp
                  try with_reducible rfl
                try simp only [Act.put, List.setIfInBounds_toArray, List.set_cons_zero, List.set_cons_succ]
                refine wpAnyH_take (i := 22) (v := ?_) rfl (by kernel_rfl) (by kernel_rfl) (by kernel_rfl) (fun _ _ _ h => h) (Or.inl ⟨by rfl, ?_⟩) hHeld ?_
                rotate_left
                · intro W hSw
                  go_simp
                  try with_reducible rfl
                try simp only [Act.put, List.setIfInBounds_toArray, List.set_cons_zero, List.set_cons_succ]
                refine wpAnyH_done (by kernel_rfl) ?_ _
                have q0 := HQ0.out w5 hO5
                have qf := HQf.out w5 hO5
                unfold AtLast
                refine wpOp_step rfl (fun K hK => ?_)
                have HK := Lib.hid hK
                clear hK
                go_simp
                refine HK.out _ _ ?_
                clear HK K
                go_wp2
                go_end0
                exact ⟨rfl, RfStep.laid (S := S1) HT.out H1.out hO5 hf5 HOK.out⟩
              exact AllReadyH.nil
            exact AllReadyH.nil
          exact AllReadyH.nil
        exact AllReadyH.nil
      exact AllReadyH.nil
end Go.Proofs.Ytadfajeiihonfaa
