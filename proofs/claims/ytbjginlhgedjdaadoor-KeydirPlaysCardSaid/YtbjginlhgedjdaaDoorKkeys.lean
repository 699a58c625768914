/- The document's directory: its keys, by rising. -/
import Derived.Test.YtbjginlhgedjdaaDoorKstrs
namespace Go.Proofs.YtbjginlhgedjdaaDoor.K
open Go.RowKit
set_option linter.unusedVariables false

/-- The keys of a directory's first places, by rising. -/
def kss (S : Dr) (i : Nat) : List (List UInt8) := (sre (S.take i)).map Prod.fst
def keysOf (S : Dr) : List (List UInt8) := (sre S).map Prod.fst
theorem kss_zero (S : Dr) : kss S 0 = [] := by simp [kss, sre]
theorem kss_all {S : Dr} {L : Nat} (h : L = S.length) : kss S L = keysOf S := by unfold kss keysOf; rw [h, List.take_length]
theorem kss_none {S : Dr} {i : Nat} (h : S[i]? = some none) : kss S (i + 1) = kss S i := by
  unfold kss
  rw [List.take_add_one, h]
  show (sre (S.take i ++ [none])).map _ = _
  rw [sre_snoc]; rfl
theorem kss_some {S : Dr} {i : Nat} {s : Ent Lc} (h : S[i]? = some (some s)) : kss S (i + 1) = ins id (kss S i) s.1 := by
  unfold kss
  rw [List.take_add_one, h]
  show (sre (S.take i ++ [some s])).map _ = _
  rw [sre_snoc]
  exact map_ins (k := id) Prod.fst (sre (S.take i)) s
theorem kss_up {S : Dr} (h : One S) (i : Nat) : Up id (kss S i) := by
  have := sre_up (one_left (T := S.drop i) (by rw [List.take_append_drop]; exact h))
  unfold kss
  rw [up_map]
  exact this
theorem kss_len (S : Dr) (i : Nat) : (kss S i).length ≤ S.length := by
  unfold kss
  rw [List.length_map, sre_len]
  exact Nat.le_trans (cnt_le _) (List.length_take_le' _ _)

theorem ss_at {w : World} {B : Nat} {a : Option Addr} {cap n : Nat} {l : List (List UInt8)} (h : Strs w B (.slice a n cap) l) {i : Nat} {x : List UInt8} (hx : l[i]? = some x) :
    ∃ g, a = some ⟨g, 0, none⟩ ∧ B ≤ g ∧ g < w.heap.size ∧ w.cell? ⟨g, i, none⟩ = some (.string (bs x)) := by
  have hi : i < l.length := (List.getElem?_eq_some_iff.1 hx).1
  rcases ss_cases h with ⟨_, rfl⟩ | ⟨g, cap', cur, hv, hB, hg, _, _, _, _, hc, _⟩
  · simp at hi
  · injection hv with e1 e2 e3
    exact ⟨g, e1, hB, hg, by rw [hc _ (by omega), strs_at, hx]; rfl⟩

set_option maxHeartbeats 2000000 in
theorem refkeys_any {B qb gb : Nat} {S : Dr} {w : World} (h : Rk B w qb gb S) (ho : One S) :
    Calls Tryd.prog 16 #[.pointer (some ⟨qb, 0, none⟩)] w fun e w' => ∃ v, e = .returned v ∧ Strs w' w.heap.size v (keysOf S) ∧ Below w.heap.size w w' := by
  have c0 := h.head
  have hcs := h.few
  obtain ⟨L, hL⟩ : ∃ L, L = S.length := ⟨_, rfl⟩
  rw [← hL] at c0 hcs
  have HL := Lib.hid hL; have HR := Lib.hid h; have HO := Lib.hid ho
  have C0 := Lib.hid c0
  clear hL h ho c0
  go_enter Tryd.func16, Tryd.ntmps16
  go_wp2
  go_loopg [3, 4] L (fun g s it wr => ∃ (i : Nat) (u : Value), i + g = L ∧ it = .int .i64 i ∧ u = s ∧ Strs wr w.heap.size u (kss S i) ∧ Below w.heap.size w wr)
  case atStart => exact ⟨0, _, by omega, rfl, rfl, by rw [kss_zero]; exact World.ownsRow_nil _ _ _ _, Below.refl _ _⟩
  case round =>
    obtain ⟨i, u, hi, rfl, rfl, hown, hbw⟩ := hrel
    have hRw := HR.out.below hbw
    have c0 := hRw.head
    rw [← HL.out] at c0
    by_cases hlt : i < L
    · obtain ⟨o, hoi⟩ : ∃ o, S[i]? = some o := ⟨S[i]'(by have := HL.out; omega), List.getElem?_eq_getElem _⟩
      have d5 := hRw.cells hoi (show 5 < 6 by omega)
      have d0 := hRw.cells hoi (show 0 < 6 by omega)
      rw [Nat.add_zero] at d0
      cases o with
      | none =>
        simp only [slotv, List.getElem?_cons_succ, List.getElem?_cons_zero] at d0 d5
        have HOW := Lib.hid hown; have HBW := Lib.hid hbw
        have HN := Lib.hid (kss_none hoi)
        clear hoi hRw hown hbw
        go_wp2
        go_roundg (gk - 1)
        case measure => omega
        case rel => exact ⟨i + 1, _, by omega, by go_num, rfl, by rw [HN.out]; exact HOW.out, HBW.out⟩
      | some f =>
        simp only [slotv, List.getElem?_cons_succ, List.getElem?_cons_zero] at d0 d5
        have HN := Lib.hid (kss_some hoi)
        have hu := kss_up HO.out i
        have hml := kss_len S i
        rw [← HL.out] at hml
        have hRL := hRw.lt
        have HRW := Lib.hid hRw; have HBW := Lib.hid hbw
        clear hoi hRw hbw
        obtain ⟨l, hl⟩ : ∃ l, l = kss S i := ⟨_, rfl⟩
        rw [← hl] at hown hu hml HN
        have hat := ins_at (k := id) l f.1
        have hple := pos_le (k := id) l f.1
        obtain ⟨p, hp⟩ : ∃ p, p = pos id l f.1 := ⟨_, rfl⟩
        rw [show id f.1 = f.1 from rfl, ← hp] at hat
        rw [← hp] at hple
        obtain ⟨la, lc, hlv, hlc, hcut, ⟨A, c, htail, hsrc2⟩, hsrc1⟩ := ss_piece hown p hple
        obtain ⟨N, hN⟩ : ∃ N, N = l.length := ⟨_, rfl⟩
        rw [← hN] at hlv hlc htail hsrc2 hple hml
        subst hlv
        have hlto := hown.lt
        have HOW := Lib.hid hown; have HNN := Lib.hid hN; have HP := Lib.hid hp; have HU := Lib.hid hu; have HS1 := Lib.hid hsrc1; have HS2 := Lib.hid hsrc2; have HLT := Lib.hid hlto; have HAT := Lib.hid hat; have HLL := Lib.hid hl
        clear hown hN hp hu hsrc1 hsrc2 hlto hat hl
        obtain ⟨gO, hgO⟩ : ∃ gO, gO = gk := ⟨_, rfl⟩
        go_wp2
        go_loopg [5] p (fun g it wq => ∃ (k : Nat) (q : Nat), k + g = p ∧ it = .int .i64 k ∧ wq = wr.drewN q)
        case atStart => exact ⟨0, 0, by omega, rfl, rfl⟩
        case round =>
          obtain ⟨k, q, hk, rfl, rfl⟩ := hrel
          by_cases hkN : k < N
          · obtain ⟨x, hx⟩ : ∃ x, l[k]? = some x := ⟨l[k]'(by have := HNN.out; omega), List.getElem?_eq_getElem _⟩
            obtain ⟨g, hg, _, hgl, e0⟩ := ss_at HOW.out hx
            subst hg
            by_cases hkp : k < p
            · have hlt2 : lt x f.1 = true := pos_before (k := id) (by rw [← HP.out]; exact hkp) hx
              have hbl : Op.bytesLess (bs x).toList (bs f.1).toList = true := by rw [bs_toList, bs_toList]; exact hlt2
              clear hx hlt2
              go_wp2
              go_quiet (fail)
              go_wp2
              go_roundg (gk - 1)
              case measure => omega
              case rel => exact ⟨k + 1, _, by omega, by go_num, rfl⟩
            · obtain rfl : k = p := by omega
              have hlt2 : lt x f.1 = false := pos_behind (k := id) HU.out (by rw [← HP.out]; exact Nat.le_refl _) hx
              have hbl : Op.bytesLess (bs x).toList (bs f.1).toList = false := by rw [bs_toList, bs_toList]; exact hlt2
              clear hx hlt2
              go_wp2
              go_quiet (fail)
              go_wp2
              generalize hW2 : World.drewN _ _ = W2
              have K0 : Old wr W2 := by rw [← hW2]; exact ((Old.refl _).drewN _).drewN _
              clear hW2
              have M0 : ∀ W, Old wr W → W.cell? ⟨qb, 0, none⟩ = some (.slice (some ⟨gb, 0, none⟩) L L) := fun W hW => by rw [Below.cell (p := ⟨qb, 0, none⟩) hW hRL.1]; exact c0
              have M1 : ∀ W, Old wr W → W.cell? ⟨gb, i * 6, none⟩ = some (.string (bs f.1)) := fun W hW => by rw [Below.cell (p := ⟨gb, i * 6, none⟩) hW hRL.2]; exact d0
              have HOW2 : Hid (∀ W, Old wr W → ∀ t, (Value.slice (some ⟨g, 0, none⟩) N lc).ownBlock = some t → W.heap[t]? = wr.heap[t]?) := Lib.hid (fun W hW t ht => hW.block t (HLT.out t ht).2)
              have hz2 : wr.heap.size ≤ W2.heap.size := K0.size
              have hbz := HBW.out.size
              have hlN : l.length ≤ 1024 := by have := HNN.out; omega
              clear c0 d0 d5
              go_region_held3 (fun W => Old wr W) (first | assumption | exact K0 | exact K0.drew | exact Old.drew ‹_› | exact Old.alloc ‹_› _ | exact (K0.alloc _).drew | exact ((K0.alloc _).alloc _).drew)
                (first
                  | (refine step_append_ss rfl (.tmp 45) (.tmp 48) (by rfl) wr.heap.size _ [] (by rfl) (ss_empty (by omega) (by first | exact heap_alloc_new _ _ | exact heap_alloc2_new _ _ _ | exact heap_alloc2_old _ _ _)) _ (l.take k) (by rfl) (HS1.out _ (HOW2.out _ (by assumption))) (by rw [List.length_take, List.length_nil]; omega) (by simp; omega) ?_
                     intro a3 n3 c3 w3 hf3 hb3 hg3
                     have hO3 : Old wr w3 := Old.below (by assumption) hb3)
                  | (refine step_append_ss rfl (.tmp 49) (.tmp 58) (by rfl) wr.heap.size _ ([] ++ l.take k) (by rfl) (by first | exact hf3 | exact hf3.drew | exact hf3.alloc _ | exact (hf3.alloc _).drew) _ [f.1] (by rfl)
                      (ss_one f.1 _ _ (by first | exact heap_alloc_new _ _ | exact (hg3.block _ (by first | (simp; done) | (simp; omega)) (by first | (simp [Value.ownBlock]; done) | (simp [Value.ownBlock]; omega))).trans (heap_alloc2_new _ _ _) | exact (hg3.block _ (by first | (simp; done) | (simp; omega)) (by first | (simp [Value.ownBlock]; done) | (simp [Value.ownBlock]; omega))).trans (heap_alloc2_old _ _ _))) (by simp; omega) (by have := hO3.size; simp; omega) ?_
                     intro a4 n4 c4 w4 hf4 hb4 hg4
                     have hO4 : Old wr w4 := Old.below (by assumption) hb4)
                  | (refine step_append_ss rfl (.tmp 59) (.tmp 62) (by rfl) wr.heap.size _ ([] ++ l.take k ++ [f.1]) (by rfl) (by first | exact hf4 | exact hf4.drew) _ (l.drop k) (by rfl) (HS2.out _ (HOW2.out _ (by assumption))) (by simp; omega) (by have := hO4.size; simp; omega) ?_
                     intro a5 n5 c5 w5 hf5 hb5 hg5
                     have hO5 : Old wr w5 := Old.below (by assumption) hb5))
              all_goals
                go_wp2
                go_roundg (gO - 1)
                case measure => omega
                case rel =>
                  refine ⟨i + 1, _, by omega, by go_num, rfl, ?_, HBW.out.trans (hO5.mono hbz)⟩
                  rw [HN.out, HAT.out]
                  exact ss_base hf5 (by omega)
          · obtain rfl : k = p := by omega
            obtain rfl : k = N := by omega
            rw [Nat.sub_self] at htail
            have hs2' := HS2.out
            rw [Nat.sub_self] at hs2'
            have HS2' := Lib.hid hs2'
            clear hs2' HS2
            go_wp2
            go_quiet (fail)
            go_wp2
            generalize hW2 : World.drewN _ _ = W2
            have K0 : Old wr W2 := by rw [← hW2]; exact ((Old.refl _).drewN _).drewN _
            clear hW2
            have M0 : ∀ W, Old wr W → W.cell? ⟨qb, 0, none⟩ = some (.slice (some ⟨gb, 0, none⟩) L L) := fun W hW => by rw [Below.cell (p := ⟨qb, 0, none⟩) hW hRL.1]; exact c0
            have M1 : ∀ W, Old wr W → W.cell? ⟨gb, i * 6, none⟩ = some (.string (bs f.1)) := fun W hW => by rw [Below.cell (p := ⟨gb, i * 6, none⟩) hW hRL.2]; exact d0
            have HOW2 : Hid (∀ W, Old wr W → ∀ t, (Value.slice la k lc).ownBlock = some t → W.heap[t]? = wr.heap[t]?) := Lib.hid (fun W hW t ht => hW.block t (HLT.out t ht).2)
            have hz2 : wr.heap.size ≤ W2.heap.size := K0.size
            have hbz := HBW.out.size
            have hlN : l.length ≤ 1024 := by have := HNN.out; omega
            clear c0 d0 d5
            go_region_held3 (fun W => Old wr W) (first | assumption | exact K0 | exact K0.drew | exact Old.drew ‹_› | exact Old.alloc ‹_› _ | exact (K0.alloc _).drew | exact ((K0.alloc _).alloc _).drew)
              (first
                | (refine step_append_ss rfl (.tmp 45) (.tmp 48) (by rfl) wr.heap.size _ [] (by rfl) (ss_empty (by omega) (by first | exact heap_alloc_new _ _ | exact heap_alloc2_new _ _ _ | exact heap_alloc2_old _ _ _)) _ (l.take k) (by rfl) (HS1.out _ (HOW2.out _ (by assumption))) (by rw [List.length_take, List.length_nil]; omega) (by simp; omega) ?_
                   intro a3 n3 c3 w3 hf3 hb3 hg3
                   have hO3 : Old wr w3 := Old.below (by assumption) hb3)
                | (refine step_append_ss rfl (.tmp 49) (.tmp 58) (by rfl) wr.heap.size _ ([] ++ l.take k) (by rfl) (by first | exact hf3 | exact hf3.drew | exact hf3.alloc _ | exact (hf3.alloc _).drew) _ [f.1] (by rfl)
                    (ss_one f.1 _ _ (by first | exact heap_alloc_new _ _ | exact (hg3.block _ (by first | (simp; done) | (simp; omega)) (by first | (simp [Value.ownBlock]; done) | (simp [Value.ownBlock]; omega))).trans (heap_alloc2_new _ _ _) | exact (hg3.block _ (by first | (simp; done) | (simp; omega)) (by first | (simp [Value.ownBlock]; done) | (simp [Value.ownBlock]; omega))).trans (heap_alloc2_old _ _ _))) (by simp; omega) (by have := hO3.size; simp; omega) ?_
                   intro a4 n4 c4 w4 hf4 hb4 hg4
                   have hO4 : Old wr w4 := Old.below (by assumption) hb4)
                | (refine step_append_ss rfl (.tmp 59) (.tmp 62) (by rfl) wr.heap.size _ ([] ++ l.take k ++ [f.1]) (by rfl) (by first | exact hf4 | exact hf4.drew) _ (l.drop k) (by rfl) (HS2'.out _ (HOW2.out _ (by assumption))) (by simp; omega) (by have := hO4.size; simp; omega) ?_
                   intro a5 n5 c5 w5 hf5 hb5 hg5
                   have hO5 : Old wr w5 := Old.below (by assumption) hb5))
            all_goals
              go_wp2
              go_roundg (gO - 1)
              case measure => omega
              case rel =>
                refine ⟨i + 1, _, by omega, by go_num, rfl, ?_, HBW.out.trans (hO5.mono hbz)⟩
                rw [HN.out, HAT.out]
                exact ss_base hf5 (by omega)
    · obtain rfl : i = L := by omega
      rw [kss_all HL.out] at hown
      obtain ⟨ua, uc, hu⟩ := ss_form hown
      obtain ⟨M, hM⟩ : ∃ M, M = (keysOf S).length := ⟨_, rfl⟩
      rw [← hM] at hu
      subst hu
      have HOW := Lib.hid hown; clear hown hM
      go_wp2
      go_ret
      exact ⟨.slice ua M uc, rfl, HOW.out, hbw⟩
end Go.Proofs.YtbjginlhgedjdaaDoor.K
