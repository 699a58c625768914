/- The program's Drop. -/
import Derived.Test.YtbndhhlekfdppaaLpput
namespace Go.Proofs.Ytbndhhlekfdppaa.L
open Go.RowKit Go.Maps
set_option linter.unusedVariables false
/-- What is left when i were looked at. -/
def mid (l : List It) (seg : Int) (i : Nat) : List It := dropS (l.take i) seg ++ l.drop i
theorem mid_sub (l : List It) (seg : Int) (i : Nat) : (mid l seg i).Sublist l := by
  have h : (dropS (l.take i) seg ++ l.drop i).Sublist (l.take i ++ l.drop i) := List.Sublist.append List.filter_sublist (List.Sublist.refl _)
  rw [List.take_append_drop] at h
  exact h
theorem mid_at {l : List It} {i : Nat} {x : It} (seg : Int) (hx : l[i]? = some x) : mid l seg i = dropS (l.take i) seg ++ x :: l.drop (i + 1) := by
  unfold mid
  rw [← (List.getElem?_eq_some_iff.1 hx).2, List.drop_eq_getElem_cons (List.getElem?_eq_some_iff.1 hx).1]
theorem drop_take {l : List It} {i : Nat} {x : It} (seg : Int) (hx : l[i]? = some x) : dropS (l.take (i + 1)) seg = if x.1.seg = seg then dropS (l.take i) seg else dropS (l.take i) seg ++ [x] := by
  rw [List.take_add_one, hx]; exact drop_snoc _ _ _
theorem turnMb {w w' : World} {mb : Nat} (hg : w.grownBy w' (some mb)) : Turn (fun k => k = mb) w w' := (Turn.refl _ w).grown hg (fun k hk => Or.inl (Option.some.inj hk).symm)
section
variable {B pb mb most : Nat} {os : List Bk} {l : List It} {w : World} {seg : Int}
set_option maxHeartbeats 2000000 in
theorem pdrop_any (h : Pm B w pb mb most os l) (hk : os.take l.length = l.map Prod.fst) (ho : Ok most l) (hm : most ≤ 64) (hf : Fits l) :
    Calls Try.prog 12 #[.pointer (some ⟨pb, 0, none⟩), .int .i64 seg] w (PmPost B w pb mb most (dropS l seg) (.int .i64 ((l.length : Int) - ((dropS l seg).length : Int)))) := by
  have hn : l.length ≤ 64 := Nat.le_trans ho.few hm
  have HO := Lib.hid (porder_any h hn)
  have HP := Lib.hid h
  have HK := Lib.hid (And.intro hk (And.intro ho hf))
  obtain ⟨n, hnl⟩ : ∃ n, n = l.length := ⟨_, rfl⟩
  rw [← hnl] at HO hn ⊢
  have HN := Lib.hid hnl
  clear h hk ho hm hf hnl
  go_enter Try.func12, Try.ntmps12
  go_wp2_with fail
  refine HO.out.mono ?_
  rintro e w1 ⟨rfl, hb1⟩
  have HP1 := Lib.hid (HP.out.below hb1)
  have HB1 := Lib.hid hb1
  clear hb1 HO HP
  go_wp2
  go_loopg [6, 13] n (fun g s it wr => ∃ (i j : Nat) (oi : List Bk), i + g = n ∧ s = .int .i64 (j : Int) ∧ it = .int .i64 (i : Int) ∧ j = (dropS (l.take i) seg).length ∧ Pm B wr pb mb most oi (mid l seg i) ∧ oi.take j = (dropS (l.take i) seg).map Prod.fst ∧ (∀ k, i ≤ k → oi[k]? = os[k]?) ∧ Turn (fun k => k = pb ∨ k = mb) w wr)
  case atStart => exact ⟨0, 0, os, by omega, rfl, rfl, rfl, HP1.out, rfl, fun _ _ => rfl, Turn.of_below _ HB1.out (Nat.le_refl _)⟩
  case round =>
    obtain ⟨i, j, oi, hi, rfl, rfl, hj, hp, hkj, hko, ht⟩ := hrel
    have hji : j ≤ i := by rw [hj]; exact Nat.le_trans (drop_len _ _) (List.length_take_le _ _)
    have HJ := Lib.hid hj; have HPm := Lib.hid hp; have HKJ := Lib.hid hkj; have HKO := Lib.hid hko; have HT := Lib.hid ht
    clear hj hp hkj hko ht
    by_cases hlt : i < n
    · obtain ⟨x, hx⟩ : ∃ x, l[i]? = some x := ⟨_, List.getElem?_eq_getElem (by have := HN.out; omega)⟩
      have hoi : oi[i]? = some x.1 := (HKO.out i (Nat.le_refl _)).trans (keys_at HK.out.1 hx)
      obtain ⟨k0, k1⟩ := HPm.out.key hoi
      have HX := Lib.hid (And.intro hx hoi)
      clear hx hoi
      have hb := (Below.refl wr.heap.size wr).alloc (Nat.le_refl _) (.cells #[.int .i64 x.1.seg, .int .i64 x.1.n] 32)
      have y0 := heap_alloc_new wr (.cells #[.int .i64 x.1.seg, .int .i64 x.1.n] 32)
      have hPW := HPm.out.below hb
      have hcl := fun t => cell_of_row _ wr.heap.size t _ _ (0, 0) y0
      have f0 := hcl 0; have f1 := hcl 1
      simp only [List.getElem?_toArray, List.getElem?_cons_succ, List.getElem?_cons_zero] at f0 f1
      clear hcl y0
      by_cases hs : x.1.seg = seg
      · have hsb : (x.1.seg == seg) = true := by simpa using hs
        have HS := Lib.hid hs
        clear hs
        go_wp2
        have c0 := hPW.head
        have hmid := mid_at seg HX.out.1
        have hsubm := mid_sub l seg i
        obtain ⟨w', hr, hmp, hg⟩ := (show MapI (wr.alloc (.cells #[.int .i64 x.1.seg, .int .i64 x.1.n] 32)).drew mb _ from hPW.map).del (HK.out.2.1.one.sublist hsubm) (fun y hy => (HK.out.2.2 y (hsubm.subset hy)).1) (x := x) (by rw [hmid]; simp)
        have hwo : wo (mid l seg i) x.1 = mid l seg (i + 1) := by
          have hone := HK.out.2.1.one.sublist hsubm
          have hpl : (mid l seg i)[j]? = some x := by rw [hmid, List.getElem?_append_right (by rw [← HJ.out]; exact Nat.le_refl _), ← HJ.out, Nat.sub_self]; rfl
          rw [wo_place hone hpl]
          unfold mid
          rw [drop_take seg HX.out.1, if_pos HS.out]
          have e1 : (dropS (l.take i) seg ++ l.drop i).take j = dropS (l.take i) seg := by rw [List.take_append_of_le_length (by rw [← HJ.out]; exact Nat.le_refl _), HJ.out, List.take_length]
          have e2 : (dropS (l.take i) seg ++ l.drop i).drop (j + 1) = l.drop (i + 1) := by
            rw [List.drop_append, List.drop_of_length_le (by rw [← HJ.out]; omega), List.nil_append, ← HJ.out, Nat.add_sub_cancel_left, List.drop_drop]
          rw [e1, e2]
        rw [hwo] at hmp
        have tA : Turn (fun k => k = pb ∨ k = mb) wr w' := ((Turn.of_below _ hb (Nat.le_refl _)).drew 1).then (turnMb hg) (fun k hk => Or.inl (Or.inr hk))
        have hP2 : Pm B w' pb mb most oi (mid l seg (i + 1)) := ⟨(hg.block pb hPW.lt.1 (fun e => hPW.base.2.2.1 (Option.some.inj e))).trans hPW.blk, hmp, hPW.len, ⟨hPW.base.1, hPW.base.2.1, hPW.base.2.2.1, Nat.le_trans HPm.out.base.2.2.2 tA.size⟩⟩
        have hj2 : j = (dropS (l.take (i + 1)) seg).length := by rw [drop_take seg HX.out.1, if_pos HS.out]; exact HJ.out
        have hk2 : oi.take j = (dropS (l.take (i + 1)) seg).map Prod.fst := by rw [drop_take seg HX.out.1, if_pos HS.out]; exact HKJ.out
        have H2 := Lib.hid (And.intro hj2 (And.intro hP2 (And.intro hk2 (HT.out.trans tA))))
        unfold blkV at hr
        clear hj2 hP2 hk2 tA hmp hg hwo hmid hsubm hb hPW HPm HKJ
        go_region
        go_wp2
        go_roundg (gk - 1)
        case measure => omega
        case rel => exact ⟨i + 1, j, oi, by omega, rfl, by go_num, H2.out.1, H2.out.2.1, H2.out.2.2.1, fun k hk => HKO.out k (by omega), H2.out.2.2.2⟩
      · have hsb : (x.1.seg == seg) = false := by simpa using hs
        have HS := Lib.hid hs
        clear hs
        go_wp2
        have hj64 : j < 64 := by omega
        obtain ⟨y, hy⟩ : ∃ y, oi[j]? = some y := ⟨_, List.getElem?_eq_getElem (by rw [hPW.len]; exact hj64)⟩
        obtain ⟨p0, p1⟩ := hPW.key hy
        have z0 := hPW.free (1 + j * 2)
        have z1 := hPW.free (1 + j * 2 + 1)
        obtain ⟨hP3, t3⟩ := hPW.set hj64 x.1
        have hmid : mid l seg i = mid l seg (i + 1) := by
          rw [mid_at seg HX.out.1]
          unfold mid
          rw [drop_take seg HX.out.1, if_neg HS.out, List.append_assoc]; rfl
        rw [hmid] at hP3
        have hj2 : j + 1 = (dropS (l.take (i + 1)) seg).length := by rw [drop_take seg HX.out.1, if_neg HS.out, List.length_append, ← HJ.out]; rfl
        have hk2 : (oi.set j x.1).take (j + 1) = (dropS (l.take (i + 1)) seg).map Prod.fst := by
          rw [drop_take seg HX.out.1, if_neg HS.out, List.map_append, ← HKJ.out, List.take_add_one, List.take_set_of_le (Nat.le_refl _), List.getElem?_set_self (by rw [hPW.len]; exact hj64)]; rfl
        have tA := (((Turn.of_below (fun k => k = pb) hb (Nat.le_refl _)).trans t3).drew 1).mono (G := fun k => k = pb ∨ k = mb) (fun k _ hk => Or.inl hk)
        have hP4 := hP3.below (below_drewN (Below.refl _ _) 1)
        have H2 := Lib.hid (And.intro hj2 (And.intro hP4 (And.intro hk2 (HT.out.trans tA))))
        have hwj : IntKind.i64.wrap ((j : Int) + 1) = ((j + 1 : Nat) : Int) := by rw [IntWalk.i64_in _ ⟨by omega, by omega⟩]; omega
        clear hj2 hP3 hP4 t3 hk2 tA hmid hb hPW HPm HKJ hy
        go_region
        go_wp2
        go_roundg (gk - 1)
        case measure => omega
        case rel => exact ⟨i + 1, j + 1, oi.set j x.1, by omega, by go_num, by go_num, H2.out.1, H2.out.2.1, H2.out.2.2.1, fun k hk => by rw [List.getElem?_set_ne (by omega)]; exact HKO.out k (by omega), H2.out.2.2.2⟩
    · obtain rfl : i = n := by omega
      have hall : l.take i = l := List.take_of_length_le (by rw [← HN.out]; exact Nat.le_refl _)
      have hdr : l.drop i = [] := List.drop_of_length_le (by rw [← HN.out]; exact Nat.le_refl _)
      have hmid : mid l seg i = dropS l seg := by unfold mid; rw [hall, hdr, List.append_nil]
      have hjl : j = (dropS l seg).length := by rw [HJ.out, hall]
      have hwi : IntKind.i64.wrap ((i : Int) - (j : Int)) = (i : Int) - (j : Int) := IntWalk.i64_in _ ⟨by omega, by omega⟩
      have HA := Lib.hid (And.intro hall (And.intro hmid hjl))
      clear hall hdr hmid hjl
      go_wp2
      go_ret
      obtain ⟨hall, hmid, hjl⟩ := HA.out
      refine ⟨by rw [hjl]; rfl, oi, by rw [← hmid]; exact HPm.out, ?_, HT.out⟩
      have := HKJ.out
      rw [hall] at this
      rw [← hjl]; exact this
end
end Go.Proofs.Ytbndhhlekfdppaa.L
