/- The program's segments, on the program's disk: Write. -/
import Derived.Test.YtmekkbhblghbmaaGreatDoorScode
import Derived.Test.YtmekkbhblghbmaaGreatDoorSref6
import Derived.Test.YtmekkbhblghbmaaGreatDoorFb
namespace Go.Proofs.YtmekkbhblghbmaaGreatDoor
open Go.RowKit
set_option linter.unusedVariables false

theorem szN_file (S : D.St) (n : List UInt8) : D.szN S n = ((fileB S n).length : Int) := by
  unfold D.szN fileB
  cases D.find S.fs n with
  | none => rfl
  | some f => rfl

/-- Entries in memory made behind the disk's step. -/
theorem entd_behind {T : TypeId} {B pb : Nat} {F : Nat → Prop} {S' : D.St} {w w5 w' : World} {l : List Et} {x : Int} {a : Option Addr} {cap : Nat} (hs : DsStep B pb F S' w w5) (hz : w.heap.size ≤ w5.heap.size) (ho : w'.ownsRow w5.heap.size T 5 (.slice a l.length cap) l.length (eflat l)) (hb : Below w5.heap.size w5 w') :
    DsPost B pb F S' (EntD w l x) w (.returned (.tuple #[.slice a l.length cap, .int .i64 x])) w' := by
  obtain ⟨F', hd, hF, t⟩ := hs
  have hk := entd_now (x := x) hd (Nat.le_refl _) ho hb
  obtain ⟨F2, ⟨a2, cap2, he, hen, hnw, hap⟩, hd2, hF2, t2⟩ := hk
  refine ⟨F2, ⟨a2, cap2, he, hen, hnw.mono hz, hap⟩, hd2, fun k hk => ?_, t.then t2 hF⟩
  rcases hF2 k hk with hk | hk
  · exact hF k hk
  · exact Or.inr (Nat.le_trans hz hk)

set_option maxRecDepth 100000 in
set_option maxHeartbeats 4000000 in
theorem swrite_any (C : NmC) {B pb : Nat} {S : D.St} {w : World} {F : Nat → Prop} (h : D.DkS B w pb F S) (hT : Tb B w) (n : Int) (l : List Rc) (a : Option Addr) (cap : Nat) (hn1 : -9223372036854775808 ≤ n) (hn2 : n ≤ 9223372036854775807) (hl : l.length ≤ 9223372036854775807) (hr : Recs w a l) (hf : Fits l) (hcs : S.fs.length < 1000000000) :
    Calls Tryz.prog 11 #[.pointer (some ⟨pb, 0, none⟩), .int .i64 n, .slice a l.length cap] w (DsPost B pb F (wrS S n l) (EntD w (wrL S n l) (wrE S n l)) w) := by
  by_cases hn : segOk n
  · have HNM := Lib.hid (fun (W : World) (hW : Below w.heap.size w W) => C.name n W (hT.new hW) hn1 hn2)
    rw [show nameOf 115 n = sN n from rfl] at HNM
    have HR := Lib.hid (sgv_yes hn w)
    have HBT := Lib.hid (fbytes_any l a cap w hl hr hf)
    have HH := Lib.hid h
    by_cases hg : good l = true
    · have hE : wrE S n l = D.apE S (sN n) (fbs l) := by unfold wrE; rw [if_pos ⟨hn, hg⟩]
      have hS : wrS S n l = D.apS S (sN n) (fbs l) := by unfold wrS; rw [if_pos ⟨hn, hg⟩]
      have hL : wrL S n l = if D.apE S (sN n) (fbs l) = 0 then moved (fileB S (sN n)).length (hof 0 [l]) else [] := by unfold wrL; rw [hE]
      rw [hE, hS, hL]
      rw [fbV_yes hg] at HBT
      have hfl := fbs_len hg
      have hbl := fileB_len h.good (sN n)
      have hlm : (sN n).length ≤ maxLen := by have := sN_len n; unfold maxLen; omega
      have HSZ := Lib.hid (fun (W : World) (hW : Below w.heap.size w W) => D.size_any (n := sN n) (dkB h hW) hlm)
      unfold D.szPost at HSZ
      rw [szN_file] at HSZ
      have HAP := Lib.hid (fun (W : World) (hW : Below w.heap.size w W) => D.append_any (n := sN n) (b := fbs l) (dkB h hW) hlm (by unfold maxLen; omega) hcs)
      have HOF := Lib.hid (fun (W : World) => hofT_any (fbs l) W (by omega))
      rw [fs_one hg] at HOF
      have hle := fun i hi => hof_one_le hg i hi
      have hpos : 0 < (hof 0 [l]).length := by rw [hof_one_len]; exact ((good_iff l).1 hg).1.1
      have hfew : (hof 0 [l]).length ≤ 16 := by rw [hof_one_len]; exact ((good_iff l).1 hg).1.2
      have HLE := Lib.hid hle
      clear hE hS hL hl hr hf hle
      generalize hof 0 [l] = E0 at *
      generalize fileB S (sN n) = F0 at *
      generalize D.szE S (sN n) = ze at *
      obtain ⟨S1, hS1⟩ : ∃ S1, S1 = D.apS S (sN n) (fbs l) := ⟨_, rfl⟩
      obtain ⟨x, hx⟩ : ∃ x, x = D.apE S (sN n) (fbs l) := ⟨_, rfl⟩
      rw [← hS1, ← hx] at HAP ⊢
      obtain ⟨k2, hk2⟩ : ∃ k2, k2 = (fs (fbs l)).2 := ⟨_, rfl⟩
      rw [← hk2] at HOF
      unfold HoPostT at HOF
      dsimp only at HOF
      obtain ⟨L, hLl⟩ : ∃ L, L = l.length := ⟨_, rfl⟩
      rw [← hLl] at HBT ⊢
      obtain ⟨K, hK⟩ : ∃ K, K = F0.length := ⟨_, rfl⟩
      rw [← hK] at HSZ hbl
      have HK := Lib.hid hK
      obtain ⟨M, hM⟩ : ∃ M, M = E0.length := ⟨_, rfl⟩
      have HM := Lib.hid hM
      rw [← hM] at HOF hpos hfew
      generalize bs (fbs l) = X at *
      generalize bs (sN n) = Nm at *
      clear hS1 hx hk2 hLl hg hn hfl h hlm hcs hK hM hT
      by_cases hx0 : x = 0
      · rw [if_pos hx0]
        subst hx0
        go_enter Tryz.func11, Tryz.ntmps11
        go_wp2_with fail
        refine HR.out.mono ?_
        rintro e w1 ⟨rfl, rfl⟩
        go_wp2_with fail
        refine HBT.out.mono ?_
        rintro e w1 ⟨rfl, hb1⟩
        have HB1 := Lib.hid hb1
        clear hb1
        go_wp2_with fail
        refine (HNM.out _ HB1.out).mono ?_
        rintro e w2 ⟨rfl, hb2⟩
        have HB2 := Lib.hid (HB1.out.trans (hb2.mono HB1.out.size))
        clear hb2
        go_wp2_with fail
        refine (HSZ.out _ HB2.out).mono ?_
        rintro e w3 ⟨rfl, hb3⟩
        have HB3 := Lib.hid (HB2.out.trans (hb3.mono HB2.out.size))
        clear hb3
        go_wp2_with fail
        refine (HNM.out _ HB3.out).mono ?_
        rintro e w4 ⟨rfl, hb4⟩
        have HB4 := Lib.hid (HB3.out.trans (hb4.mono HB3.out.size))
        clear hb4
        go_wp2_with fail
        refine (HAP.out _ HB4.out).mono ?_
        rintro e w5 ⟨rfl, hs5⟩
        have HS5 := Lib.hid (DsStep.ahead HH.out HB4.out (show DsStep B pb F S1 w4 w5 from hs5))
        clear hs5
        go_wp2_with fail
        refine (HOF.out _).mono ?_
        rintro e w6 ⟨oa, ocap, rfl, hown, hb6⟩
        obtain ⟨g, hoa⟩ : ∃ g, oa = some ⟨g, 0, none⟩ := by
          rcases hown.2 with ⟨e, _⟩ | ⟨g, c, cur, e, _⟩
          · injection e with e1 e2 e3; omega
          · injection e with e1 e2 e3; exact ⟨g, e1⟩
        subst hoa
        have HOW := Lib.hid hown; have HB6 := Lib.hid hb6
        have hz5 : Hid (w.heap.size ≤ w5.heap.size) := Lib.hid (by obtain ⟨_, _, _, t⟩ := HS5.out; exact t.size)
        clear hown hb6
        go_wp2_with fail
        go_loopg [49] M (fun gg it wr => ∃ i : Nat, i + gg = M ∧ it = .int .i64 i ∧ wr.ownsRow w5.heap.size 51 5 (.slice (some ⟨g, 0, none⟩) M ocap) M (eflat (mvd K E0 i)) ∧ Below w5.heap.size w5 wr)
        case atStart => exact ⟨0, by omega, rfl, by rw [mvd_zero]; exact HOW.out, HB6.out⟩
        case round =>
          obtain ⟨i, hi, rfl, hown, hbw⟩ := hrel
          by_cases hlt : i < M
          · have hiE : i < E0.length := by rw [← HM.out]; exact hlt
            have hat := mvd_at K E0 i hiE
            obtain ⟨c1, f1, hgl, hgB⟩ := ents_cell hown (by rw [mvd_len]; exact HM.out.symm) hat
            have hset := ents_set hown hat (E0[i].o + K)
            rw [← mvd_next K E0 i hiE] at hset
            obtain ⟨b0, b1⟩ := HLE.out i hiE
            obtain ⟨oi, hoi⟩ : ∃ oi, oi = E0[i].o := ⟨_, rfl⟩
            rw [← hoi] at c1 hset b0 b1
            have hw1 : IntKind.i64.wrap (oi + (K : Int)) = oi + (K : Int) := IntWalk.i64_in _ ⟨by omega, by omega⟩
            have HSE := Lib.hid hset; have HBW := Lib.hid hbw
            clear hset hbw hown hat hoi
            go_wp2_with fail
            go_roundg (gk - 1)
            case measure => omega
            case rel => exact ⟨i + 1, by omega, by go_num, HSE.out, HBW.out.setCell hgB _⟩
          · obtain rfl : i = M := by omega
            have hall : mvd K E0 i = moved K E0 := by rw [HM.out, mvd_all]
            rw [hall] at hown
            have HO := Lib.hid hown; have HBW := Lib.hid hbw
            clear hown hbw hall
            go_wp2_with fail
            go_ret2
            have hml : (moved F0.length E0).length = i := by rw [moved_len, HM.out]
            have ho : wr.ownsRow w5.heap.size 51 5 (.slice (some ⟨g, 0, none⟩) (moved F0.length E0).length ocap) (moved F0.length E0).length (eflat (moved F0.length E0)) := by
              rw [hml, ← HK.out]; exact HO.out
            have := entd_behind (x := 0) HS5.out hz5.out ho HBW.out
            rw [hml] at this
            exact this
      · rw [if_neg hx0]
        go_enter Tryz.func11, Tryz.ntmps11
        go_wp2_with fail
        refine HR.out.mono ?_
        rintro e w1 ⟨rfl, rfl⟩
        go_wp2_with fail
        refine HBT.out.mono ?_
        rintro e w1 ⟨rfl, hb1⟩
        have HB1 := Lib.hid hb1
        clear hb1
        go_wp2_with fail
        refine (HNM.out _ HB1.out).mono ?_
        rintro e w2 ⟨rfl, hb2⟩
        have HB2 := Lib.hid (HB1.out.trans (hb2.mono HB1.out.size))
        clear hb2
        go_wp2_with fail
        refine (HSZ.out _ HB2.out).mono ?_
        rintro e w3 ⟨rfl, hb3⟩
        have HB3 := Lib.hid (HB2.out.trans (hb3.mono HB2.out.size))
        clear hb3
        go_wp2_with fail
        refine (HNM.out _ HB3.out).mono ?_
        rintro e w4 ⟨rfl, hb4⟩
        have HB4 := Lib.hid (HB3.out.trans (hb4.mono HB3.out.size))
        clear hb4
        go_wp2_with fail
        refine (HAP.out _ HB4.out).mono ?_
        rintro e w5 ⟨rfl, hs5⟩
        have HS5 := Lib.hid (DsStep.ahead HH.out HB4.out (show DsStep B pb F S1 w4 w5 from hs5))
        clear hs5
        go_wp2_with fail
        go_ret2
        exact entd_nil HS5.out rfl rfl
    · have hE : wrE S n l = 1 := by unfold wrE; rw [if_neg (fun q => hg q.2)]
      have hS : wrS S n l = S := by unfold wrS; rw [if_neg (fun q => hg q.2)]
      have hL : wrL S n l = [] := by unfold wrL; rw [hE, if_neg (by omega)]
      rw [hE, hS, hL]
      rw [fbV_no hg] at HBT
      obtain ⟨L, hLl⟩ : ∃ L, L = l.length := ⟨_, rfl⟩
      rw [← hLl] at HBT ⊢
      clear hE hS hL hl hr hf hg hn h hcs hLl hT
      go_enter Tryz.func11, Tryz.ntmps11
      go_wp2_with fail
      refine HR.out.mono ?_
      rintro e w1 ⟨rfl, rfl⟩
      go_wp2_with fail
      refine HBT.out.mono ?_
      rintro e w1 ⟨rfl, hb1⟩
      go_wp2_with fail
      go_ret2
      exact entd_nil (DsStep.same HH.out hb1) rfl rfl
  · have hE : wrE S n l = 1 := by unfold wrE; rw [if_neg (fun q => hn q.1)]
    have hS : wrS S n l = S := by unfold wrS; rw [if_neg (fun q => hn q.1)]
    have hL : wrL S n l = [] := by unfold wrL; rw [hE, if_neg (by omega)]
    rw [hE, hS, hL]
    have HR := Lib.hid (sgv_no hn w)
    clear hE hS hL hn hl hr hf hT
    go_enter Tryz.func11, Tryz.ntmps11
    go_wp2_with fail
    refine HR.out.mono ?_
    rintro e w1 ⟨rfl, rfl⟩
    go_wp2_with fail
    go_ret2
    exact entd_nil (DsStep.same h (Below.refl _ _)) rfl rfl
end Go.Proofs.YtmekkbhblghbmaaGreatDoor
