/- The document's segments, on the document's disk: Write, All. -/
import Derived.Test.YtmekkbhblghbmaaGreatDoorSref4
import Derived.Test.YtmekkbhblghbmaaGreatDoorFb
import Derived.Maps.AppendAt
namespace Go.Proofs.YtmekkbhblghbmaaGreatDoor
open Go.RowKit
set_option linter.unusedVariables false

/-- The entries of which the first i have been moved. -/
def mvd (k : Nat) (L : List Et) (i : Nat) : List Et := moved k (L.take i) ++ L.drop i
theorem mvd_zero (k : Nat) (L : List Et) : mvd k L 0 = L := by simp [mvd, moved]
theorem mvd_all (k : Nat) (L : List Et) : mvd k L L.length = moved k L := by simp [mvd]
theorem mvd_len (k : Nat) (L : List Et) (i : Nat) : (mvd k L i).length = L.length := by
  rw [mvd, List.length_append, moved_len, List.length_take, List.length_drop]; omega
theorem mvd_at (k : Nat) (L : List Et) (i : Nat) (h : i < L.length) : (mvd k L i)[i]? = some L[i] := by
  rw [mvd, List.getElem?_append_right (by rw [moved_len, List.length_take]; omega), moved_len, List.length_take, List.getElem?_drop]
  rw [show i + (i - min i L.length) = i by omega]
  exact List.getElem?_eq_getElem h
theorem mvd_next (k : Nat) (L : List Et) (i : Nat) (h : i < L.length) : mvd k L (i + 1) = (mvd k L i).set i { L[i] with o := L[i].o + k } := by
  have hl : (moved k (L.take i)).length = i := by rw [moved_len, List.length_take]; omega
  rw [mvd, mvd, List.take_succ_eq_append_getElem h, List.set_append_right _ _ (by omega), hl, Nat.sub_self, List.drop_eq_getElem_cons h, List.set_cons_zero]
  unfold moved
  rw [List.map_append, List.append_assoc]
  rfl

theorem eflat_set : ∀ (l : List Et) (i : Nat) (e : Et) (o : Int), l[i]? = some e → (eflat l).set (i * 5 + 1) (.int .i64 o) = eflat (l.set i { e with o := o })
  | [], _, _, _, h => by simp at h
  | x :: l, 0, e, o, h => by
    simp only [List.getElem?_cons_zero, Option.some.injEq] at h
    subst h
    simp [eflat]
  | x :: l, i + 1, e, o, h => by
    have ih := eflat_set l i e o (by simpa using h)
    have e1 : ∀ (y : Et) (m : List Et), eflat (y :: m) = [.string (bs y.k), .int .i64 y.o, .int .i64 y.l, .int .u64 ((y.q : Nat) : Int), .bool y.g] ++ eflat m := fun y m => by simp [eflat]
    rw [List.set_cons_succ, e1, e1, ← ih, List.set_append_right _ _ (by simp; omega)]
    congr 2
    simp
    omega

theorem ents_set {T : TypeId} {w : World} {B g n cap : Nat} {l : List Et} (h : w.ownsRow B T 5 (.slice (some ⟨g, 0, none⟩) n cap) n (eflat l)) {i : Nat} {e : Et} (hi : l[i]? = some e) (o : Int) :
    (w.setCell ⟨g, i * 5 + 1, none⟩ (.int .i64 o)).ownsRow B T 5 (.slice (some ⟨g, 0, none⟩) n cap) n (eflat (l.set i { e with o := o })) := by
  rw [← eflat_set l i e o hi]
  obtain ⟨hl, h⟩ := h
  refine ⟨by rw [List.length_set]; exact hl, ?_⟩
  rcases h with ⟨e, _⟩ | ⟨g', cap', cur, e, hB, hg, hn, hc, hs, ht⟩
  · cases e
  · injection e with e1 e2 e3
    injection e1 with e1
    injection e1 with e1
    subst e1 e3
    refine Or.inr ⟨g, cap, cur.setIfInBounds (i * 5 + 1) (.int .i64 o), rfl, hB, heap_setCell_same w g _ cur T _ hg, hn, hc, by simpa using hs, ?_⟩
    rw [← ht]
    simp [List.take_set]

theorem ents_cell {T : TypeId} {w : World} {B g n cap : Nat} {l : List Et} (h : w.ownsRow B T 5 (.slice (some ⟨g, 0, none⟩) n cap) n (eflat l)) (hn : l.length = n) {i : Nat} {e : Et} (hi : l[i]? = some e) :
    w.cell? ⟨g, i * 5 + 1, none⟩ = some (.int .i64 e.o) ∧ w.frozen? ⟨g, i * 5 + 1, none⟩ = false ∧ g < w.heap.size ∧ B ≤ g := by
  obtain ⟨hl, h⟩ := h
  rcases h with ⟨e, _⟩ | ⟨g', cap', cur, e, hB, hg, hn', hc, hs, ht⟩
  · cases e
  · injection e with e1 e2 e3
    injection e1 with e1
    injection e1 with e1
    subst e1 e3
    obtain ⟨hil, rfl⟩ := List.getElem?_eq_some_iff.1 hi
    have h1 := (eflat_get l i hil).2.1
    refine ⟨?_, by simp [World.frozen?, hg], (Array.getElem?_eq_some_iff.1 hg).1, hB⟩
    rw [cell_of_row w g _ cur T (0, 0) hg]
    rw [← ht, List.getElem?_take] at h1
    rw [if_pos (by omega)] at h1
    simpa using h1

theorem fs_one {l : List Rc} (h : good l = true) : (fs (fbs l)).1 = [l] := by
  have := fs_cat [l] [] (fun x hx => by rw [List.mem_singleton] at hx; subst hx; exact h) ft_nil (by omega)
  rw [show cat [l] ++ [] = fbs l by simp [cat]] at this
  rw [this]
theorem hof_one_len {l : List Rc} : (hof 0 [l]).length = l.length := by rw [hof_len]; simp
theorem hof_one_le {l : List Rc} (h : good l = true) (i : Nat) (hi : i < (hof 0 [l]).length) : 0 ≤ ((hof 0 [l])[i]).o ∧ ((hof 0 [l])[i]).o ≤ 6000 := by
  obtain ⟨off, r, e, hr, ho⟩ := hof_le [l] 0 (fun x hx => by rw [List.mem_singleton] at hx; subst hx; exact h) _ (List.getElem_mem hi)
  have h1 := (fbs_len h).2
  have h2 : (cat [l]).length = (fbs l).length := by simp [cat]
  rw [e]
  show 0 ≤ (off : Int) ∧ (off : Int) ≤ 6000
  omega

set_option maxRecDepth 100000 in
set_option maxHeartbeats 4000000 in
theorem refWrite_any {B qb : Nat} {lv : Value} {S : D.St} {w : World} (h : D.Rf B w qb lv S) (n : Int) (l : List Rc) (a : Option Addr) (cap : Nat) (hl : l.length ≤ 9223372036854775807) (hr : Recs w a l) (hf : Fits l) (hcs : S.fs.length < 1000000000) :
    Calls Tryz.prog 12 #[.pointer (some ⟨qb, 0, none⟩), .int .i64 n, .slice a l.length cap] w (SfPost B qb lv (wrS S n l) (EntR w (wrL S n l) (wrE S n l)) w) := by
  by_cases hn : segOk n
  · have HNM := Lib.hid (refName_any n)
    have HR := Lib.hid (right_yes hn w)
    have HBT := Lib.hid (reffbytes_any l a cap w hl hr hf)
    have HH := Lib.hid h
    by_cases hg : good l = true
    · have hE : wrE S n l = D.apE S (sN n) (fbs l) := by unfold wrE; rw [if_pos ⟨hn, hg⟩]
      have hS : wrS S n l = D.apS S (sN n) (fbs l) := by unfold wrS; rw [if_pos ⟨hn, hg⟩]
      have hL : wrL S n l = if D.apE S (sN n) (fbs l) = 0 then moved (fileB S (sN n)).length (hof 0 [l]) else [] := by unfold wrL; rw [hE]
      rw [hE, hS, hL]
      rw [fbV_yes hg] at HBT
      have hfl := fbs_len hg
      have hbl := fileB_len h.good (sN n)
      have HBY := Lib.hid (fun (W : World) (hW : Below w.heap.size w W) => refbytes8_any (n := sN n) (h.below hW) hcs)
      have hlm : (sN n).length ≤ maxLen := by have := sN_len n; unfold maxLen; omega
      have HAP := Lib.hid (fun (W : World) (hW : Below w.heap.size w W) => D.refappend_any (n := sN n) (b := fbs l) (h.below hW) hlm (by unfold maxLen; omega) hcs)
      have HOF := Lib.hid (fun (W : World) => refhofT_any (fbs l) W (by omega))
      rw [fs_one hg] at HOF
      have hle := fun i hi => hof_one_le hg i hi
      have hpos : 0 < (hof 0 [l]).length := by rw [hof_one_len]; exact ((good_iff l).1 hg).1.1
      have hfew : (hof 0 [l]).length ≤ 16 := by rw [hof_one_len]; exact ((good_iff l).1 hg).1.2
      have HLE := Lib.hid hle
      have hszb : (bs (fileB S (sN n))).size = (fileB S (sN n)).length := bs_size _
      clear hE hS hL hl hr hf hle
      generalize hof 0 [l] = E0 at *
      generalize fileB S (sN n) = F0 at *
      obtain ⟨S1, hS1⟩ : ∃ S1, S1 = D.apS S (sN n) (fbs l) := ⟨_, rfl⟩
      obtain ⟨x, hx⟩ : ∃ x, x = D.apE S (sN n) (fbs l) := ⟨_, rfl⟩
      rw [← hS1, ← hx] at HAP ⊢
      obtain ⟨k2, hk2⟩ : ∃ k2, k2 = (fs (fbs l)).2 := ⟨_, rfl⟩
      rw [← hk2] at HOF
      unfold HoPostT at HOF
      dsimp only at HOF
      obtain ⟨L, hLl⟩ : ∃ L, L = l.length := ⟨_, rfl⟩
      rw [← hLl] at HBT ⊢
      obtain ⟨K, hK⟩ : ∃ K, K = F0.length := ⟨_, rfl⟩
      rw [← hK] at hszb hbl
      have HK := Lib.hid hK
      obtain ⟨M, hM⟩ : ∃ M, M = E0.length := ⟨_, rfl⟩
      have HM := Lib.hid hM
      rw [← hM] at HOF hpos hfew
      generalize bs (fbs l) = X at *
      clear hS1 hx hk2 hLl hg hn hfl h hlm hcs hK hM
      by_cases hx0 : x = 0
      · rw [if_pos hx0]
        subst hx0
        go_enter Tryz.func12, Tryz.ntmps12
        go_wp2_with fail
        refine HR.out.mono ?_
        rintro e w1 ⟨rfl, rfl⟩
        go_wp2_with fail
        refine HBT.out.mono ?_
        rintro e w1 ⟨rfl, hb1⟩
        have HB1 := Lib.hid hb1
        clear hb1
        go_wp2_with fail
        refine (HNM.out _).mono ?_
        rintro e w2 ⟨rfl, hb2⟩
        have HB2 := Lib.hid (HB1.out.trans (hb2.mono HB1.out.size))
        clear hb2
        go_wp2_with fail
        refine (HBY.out _ HB2.out).mono ?_
        rintro e w3 ⟨rfl, rfl⟩
        go_wp2_with fail
        refine (HNM.out _).mono ?_
        rintro e w3 ⟨rfl, hb3⟩
        have HB3 := Lib.hid (HB2.out.trans (hb3.mono HB2.out.size))
        clear hb3
        go_wp2_with fail
        refine (HAP.out _ HB3.out).mono ?_
        rintro e w4 ⟨rfl, hs4⟩
        have HS4 := Lib.hid (SfStep.ahead HH.out HB3.out (show SfStep B qb lv S1 w3 w4 from hs4))
        clear hs4
        go_wp2_with fail
        refine (HOF.out _).mono ?_
        rintro e w5 ⟨oa, ocap, rfl, hown, hb5⟩
        obtain ⟨g, hoa⟩ : ∃ g, oa = some ⟨g, 0, none⟩ := by
          rcases hown.2 with ⟨e, _⟩ | ⟨g, c, cur, e, _⟩
          · injection e with e1 e2 e3; omega
          · injection e with e1 e2 e3; exact ⟨g, e1⟩
        subst hoa
        have HOW := Lib.hid hown; have HB5 := Lib.hid hb5
        have hz4 : Hid (w.heap.size ≤ w4.heap.size) := Lib.hid (by obtain ⟨_, _, t, _⟩ := HS4.out; exact t.size)
        clear hown hb5
        go_wp2_with fail
        go_loopg [13] M (fun gg it wr => ∃ i : Nat, i + gg = M ∧ it = .int .i64 i ∧ wr.ownsRow w4.heap.size 53 5 (.slice (some ⟨g, 0, none⟩) M ocap) M (eflat (mvd K E0 i)) ∧ Below w4.heap.size w4 wr)
        case atStart => exact ⟨0, by omega, rfl, by rw [mvd_zero]; exact HOW.out, HB5.out⟩
        case round =>
          obtain ⟨i, hi, rfl, hown, hbw⟩ := hrel
          by_cases hlt : i < M
          · have hiE : i < E0.length := by rw [← HM.out]; exact hlt
            have hat := mvd_at K E0 i hiE
            obtain ⟨c1, f1, hgl, hgB⟩ := ents_cell hown (by rw [mvd_len]; exact HM.out.symm) hat
            have hset := ents_set hown hat (E0[i].o + K)
            rw [← mvd_next K E0 i hiE] at hset
            obtain ⟨b0, b1⟩ := HLE.out i hiE
            obtain ⟨oi, hoi⟩ : ∃ oi, oi = E0[i].o := ⟨_, rfl⟩
            rw [← hoi] at c1 hset b0 b1
            have hw1 : IntKind.i64.wrap (oi + (K : Int)) = oi + (K : Int) := IntWalk.i64_in _ ⟨by omega, by omega⟩
            have HSE := Lib.hid hset; have HBW := Lib.hid hbw
            clear hset hbw hown hat hoi
            go_wp2_with fail
            go_roundg (gk - 1)
            case measure => omega
            case rel => exact ⟨i + 1, by omega, by go_num, HSE.out, HBW.out.setCell hgB _⟩
          · obtain rfl : i = M := by omega
            have hall : mvd K E0 i = moved K E0 := by rw [HM.out, mvd_all]
            rw [hall] at hown
            have HO := Lib.hid hown; have HBW := Lib.hid hbw
            clear hown hbw hall
            go_wp2_with fail
            go_ret2
            have hml : (moved F0.length E0).length = i := by rw [moved_len, HM.out]
            refine ⟨?_, HS4.out.later HBW.out⟩
            have ho : wr.ownsRow w4.heap.size 53 5 (.slice (some ⟨g, 0, none⟩) (moved F0.length E0).length ocap) (moved F0.length E0).length (eflat (moved F0.length E0)) := by
              rw [hml, ← HK.out]; exact HO.out
            have := ent_now (x := 0) hz4.out ho
            rw [hml] at this
            exact this
      · rw [if_neg hx0]
        go_enter Tryz.func12, Tryz.ntmps12
        go_wp2_with fail
        refine HR.out.mono ?_
        rintro e w1 ⟨rfl, rfl⟩
        go_wp2_with fail
        refine HBT.out.mono ?_
        rintro e w1 ⟨rfl, hb1⟩
        have HB1 := Lib.hid hb1
        clear hb1
        go_wp2_with fail
        refine (HNM.out _).mono ?_
        rintro e w2 ⟨rfl, hb2⟩
        have HB2 := Lib.hid (HB1.out.trans (hb2.mono HB1.out.size))
        clear hb2
        go_wp2_with fail
        refine (HBY.out _ HB2.out).mono ?_
        rintro e w3 ⟨rfl, rfl⟩
        go_wp2_with fail
        refine (HNM.out _).mono ?_
        rintro e w3 ⟨rfl, hb3⟩
        have HB3 := Lib.hid (HB2.out.trans (hb3.mono HB2.out.size))
        clear hb3
        go_wp2_with fail
        refine (HAP.out _ HB3.out).mono ?_
        rintro e w4 ⟨rfl, hs4⟩
        have HS4 := Lib.hid (SfStep.ahead HH.out HB3.out (show SfStep B qb lv S1 w3 w4 from hs4))
        clear hs4
        go_wp2_with fail
        go_ret2
        exact ⟨entR_nil rfl rfl, HS4.out⟩
    · have hE : wrE S n l = 1 := by unfold wrE; rw [if_neg (fun q => hg q.2)]
      have hS : wrS S n l = S := by unfold wrS; rw [if_neg (fun q => hg q.2)]
      have hL : wrL S n l = [] := by unfold wrL; rw [hE, if_neg (by omega)]
      rw [hE, hS, hL]
      rw [fbV_no hg] at HBT
      obtain ⟨L, hLl⟩ : ∃ L, L = l.length := ⟨_, rfl⟩
      rw [← hLl] at HBT ⊢
      clear hE hS hL hl hr hf hg hn h hcs hLl
      go_enter Tryz.func12, Tryz.ntmps12
      go_wp2_with fail
      refine HR.out.mono ?_
      rintro e w1 ⟨rfl, rfl⟩
      go_wp2_with fail
      refine HBT.out.mono ?_
      rintro e w1 ⟨rfl, hb1⟩
      go_wp2_with fail
      go_ret2
      exact ⟨entR_nil rfl rfl, SfStep.same HH.out hb1⟩
  · have hE : wrE S n l = 1 := by unfold wrE; rw [if_neg (fun q => hn q.1)]
    have hS : wrS S n l = S := by unfold wrS; rw [if_neg (fun q => hn q.1)]
    have hL : wrL S n l = [] := by unfold wrL; rw [hE, if_neg (by omega)]
    rw [hE, hS, hL]
    have HR := Lib.hid (right_no hn w)
    clear hE hS hL hn hl hr hf
    go_enter Tryz.func12, Tryz.ntmps12
    go_wp2_with fail
    refine HR.out.mono ?_
    rintro e w1 ⟨rfl, rfl⟩
    go_wp2_with fail
    go_ret2
    exact ⟨entR_nil rfl rfl, SfStep.same h (Below.refl _ _)⟩
end Go.Proofs.YtmekkbhblghbmaaGreatDoor
