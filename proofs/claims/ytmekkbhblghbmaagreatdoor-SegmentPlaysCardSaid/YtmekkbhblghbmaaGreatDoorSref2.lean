/- The document's segments, on the document's disk: Load, Index, Hint, Seal. -/
import Derived.Test.YtmekkbhblghbmaaGreatDoorSref
import Derived.Test.YtmekkbhblghbmaaGreatDoorDr
namespace Go.Proofs.YtmekkbhblghbmaaGreatDoor
open Go.RowKit
set_option linter.unusedVariables false

/-- Entries in new memory, told at once. -/
theorem ent_now {T : TypeId} {w w2 w' : World} {l : List Et} {x : Int} {a : Option Addr} {cap : Nat} (hz : w.heap.size ≤ w2.heap.size) (h : w'.ownsRow w2.heap.size T 5 (.slice a l.length cap) l.length (eflat l)) : EntR w l x (.returned (.tuple #[.slice a l.length cap, .int .i64 x])) w' := by
  obtain ⟨a2, cap2, e, h1, h2⟩ := owns_ents2 h
  injection e with e1 e2 e3
  subst e1 e3
  exact ⟨a, cap, rfl, h1, h2.mono hz⟩
/-- .. and told behind a step of the disk. -/
theorem ent_kept {T : TypeId} {B qb : Nat} {lv : Value} {S S' : D.St} {w w2 w3 w4 w5 : World} {l : List Et} {x : Int} {a : Option Addr} {cap : Nat} (h : D.Rf B w qb lv S) (hz : w.heap.size ≤ w2.heap.size)
    (ho : w3.ownsRow w2.heap.size T 5 (.slice a l.length cap) l.length (eflat l)) (hb3 : Below w.heap.size w w3) (hb4 : Below w3.heap.size w3 w4) (hs : SfStep B qb lv S' w4 w5) : EntR w l x (.returned (.tuple #[.slice a l.length cap, .int .i64 x])) w5 := by
  obtain ⟨lv', h5, t, _⟩ := hs
  have hq := h.lt.1
  have ho5 : w5.ownsRow w2.heap.size T 5 (.slice a l.length cap) l.length (eflat l) := owns_kept (owns_kept ho (fun g hg => hb4.block g (ho.lt g hg).2)) (fun g hg => t.block g (Nat.lt_of_lt_of_le (ho.lt g hg).2 hb4.size) (fun e => by have := (ho.lt g hg).1; omega))
  exact ent_now hz ho5

/-! ### Load -/
set_option maxHeartbeats 2000000 in
theorem refLoad_any {B qb : Nat} {lv : Value} {S : D.St} {w : World} (h : D.Rf B w qb lv S) (n : Int) (hcs : S.fs.length < 1000000000) :
    Calls Tryz.prog 18 #[.pointer (some ⟨qb, 0, none⟩), .int .i64 n] w (SfPost B qb lv (ldS S n) (EntR w (ldL S n) (ldE S n)) w) := by
  by_cases hn : segOk n
  · have HNM := Lib.hid (refName_any n)
    have HR := Lib.hid (right_yes hn w)
    cases hf : D.find S.fs (sN n) with
    | none =>
      obtain ⟨e1, e2, e3⟩ := ld_none hn hf
      rw [e1, e2, e3]
      have HSZ := Lib.hid (fun (W : World) (hW : Below w.heap.size w W) => D.refsize_any (n := sN n) (h.below hW) hcs)
      rw [szE_none hf] at HSZ
      generalize D.szN S (sN n) = z at *
      have HH := Lib.hid h
      clear hf e1 e2 e3 hn h
      go_enter Tryz.func18, Tryz.ntmps18
      go_wp2_with fail
      refine HR.out.mono ?_
      rintro e w1 ⟨rfl, rfl⟩
      go_wp2_with fail
      refine (HNM.out _).mono ?_
      rintro e w1 ⟨rfl, hb1⟩
      have HB1 := Lib.hid hb1
      clear hb1
      go_wp2_with fail
      refine (HSZ.out _ HB1.out).mono ?_
      rintro e w2 ⟨rfl, rfl⟩
      go_wp2_with fail
      go_ret2
      exact ⟨entR_nil rfl rfl, SfStep.same HH.out HB1.out⟩
    | some f =>
      have HSZ := Lib.hid (fun (W : World) (hW : Below w.heap.size w W) => D.refsize_any (n := sN n) (h.below hW) hcs)
      rw [szE_some hf, szN_some hf] at HSZ
      have HBY := Lib.hid (fun (W : World) (hW : Below w.heap.size w W) => refbytes8_any (n := sN n) (h.below hW) hcs)
      rw [fileB_some hf] at HBY
      have hfl := D.len_le h.good (D.find_mem hf).1
      have HOF := Lib.hid (fun (W : World) => refhofT_any f.bt W (by omega))
      have hfw := ld_whole (S := S) (n := n) (f := f) hn hf
      have hft := ld_torn (S := S) (n := n) (f := f) hn hf
      obtain ⟨ll, k, hfs⟩ : ∃ ll k, fs f.bt = (ll, k) := ⟨_, _, rfl⟩
      have hkl : k ≤ f.bt.length := by
        obtain ⟨_, h2, h3⟩ := fs_ok hfs
        rw [h3, List.length_append, ← h2]; omega
      rw [hfs] at HOF hfw hft
      dsimp only at HOF hfw hft
      have HH := Lib.hid h
      obtain ⟨L, hL⟩ : ∃ L, L = f.bt.length := ⟨_, rfl⟩
      rw [← hL] at HSZ hfl hkl hfw hft
      have HCT := Lib.hid (fun (W : World) (hW : Below w.heap.size w W) => D.refcut_any (n := sN n) (m := (k : Int)) (h.below hW) (by omega) (by omega) hcs)
      clear hfs hf hL h
      by_cases hw : k < L
      · obtain ⟨e1, e2, e3⟩ := hft hw
        rw [e1, e2]
        obtain ⟨x, hx⟩ : ∃ x, x = D.ctE S (sN n) (k : Int) := ⟨_, rfl⟩
        rw [← hx] at e3 HCT ⊢
        by_cases hx0 : x = 0
        · rw [if_pos hx0] at e3
          rw [e3]
          have HX := Lib.hid hx; clear hx
          subst hx0
          clear e1 e2 e3 hfw hft hn
          go_enter Tryz.func18, Tryz.ntmps18
          go_wp2_with fail
          refine HR.out.mono ?_
          rintro e w1 ⟨rfl, rfl⟩
          go_wp2_with fail
          refine (HNM.out _).mono ?_
          rintro e w1 ⟨rfl, hb1⟩
          have HB1 := Lib.hid hb1
          clear hb1
          go_wp2_with fail
          refine (HSZ.out _ HB1.out).mono ?_
          rintro e w2 ⟨rfl, rfl⟩
          go_wp2_with fail
          refine (HNM.out _).mono ?_
          rintro e w2 ⟨rfl, hb2⟩
          have HB2 := Lib.hid (HB1.out.trans (hb2.mono HB1.out.size))
          clear hb2
          go_wp2_with fail
          refine (HBY.out _ HB2.out).mono ?_
          rintro e w3 ⟨rfl, rfl⟩
          go_wp2_with fail
          refine (HOF.out _).mono ?_
          rintro e w3 ⟨a, cap, rfl, hen, hb3⟩
          have HE := Lib.hid hen; have HB3 := Lib.hid (HB2.out.trans (hb3.mono HB2.out.size))
          have HZ := Lib.hid HB2.out.size
          clear hen hb3
          go_wp2_with fail
          refine (HNM.out _).mono ?_
          rintro e w4 ⟨rfl, hb4⟩
          have HB4 := Lib.hid (HB3.out.trans (hb4.mono HB3.out.size)); have HBB := Lib.hid hb4
          clear hb4
          go_wp2_with fail
          refine (HCT.out _ HB4.out).mono ?_
          rintro e w5 ⟨rfl, hs5⟩
          have HS5 := Lib.hid (show SfStep B qb lv (D.ctS S (sN n) (k : Int)) w4 w5 from hs5)
          clear hs5
          go_wp2_with fail
          go_ret2
          exact ⟨ent_kept HH.out HZ.out HE.out HB3.out HBB.out HS5.out, SfStep.ahead HH.out HB4.out HS5.out⟩
        · rw [if_neg hx0] at e3
          rw [e3]
          have HX := Lib.hid hx; clear hx
          clear e1 e2 e3 hfw hft hn
          go_enter Tryz.func18, Tryz.ntmps18
          go_wp2_with fail
          refine HR.out.mono ?_
          rintro e w1 ⟨rfl, rfl⟩
          go_wp2_with fail
          refine (HNM.out _).mono ?_
          rintro e w1 ⟨rfl, hb1⟩
          have HB1 := Lib.hid hb1
          clear hb1
          go_wp2_with fail
          refine (HSZ.out _ HB1.out).mono ?_
          rintro e w2 ⟨rfl, rfl⟩
          go_wp2_with fail
          refine (HNM.out _).mono ?_
          rintro e w2 ⟨rfl, hb2⟩
          have HB2 := Lib.hid (HB1.out.trans (hb2.mono HB1.out.size))
          clear hb2
          go_wp2_with fail
          refine (HBY.out _ HB2.out).mono ?_
          rintro e w3 ⟨rfl, rfl⟩
          go_wp2_with fail
          refine (HOF.out _).mono ?_
          rintro e w3 ⟨a, cap, rfl, hen, hb3⟩
          have HB3 := Lib.hid (HB2.out.trans (hb3.mono HB2.out.size))
          clear hen hb3
          go_wp2_with fail
          refine (HNM.out _).mono ?_
          rintro e w4 ⟨rfl, hb4⟩
          have HB4 := Lib.hid (HB3.out.trans (hb4.mono HB3.out.size))
          clear hb4
          go_wp2_with fail
          refine (HCT.out _ HB4.out).mono ?_
          rintro e w5 ⟨rfl, hs5⟩
          have HS5 := Lib.hid (show SfStep B qb lv (D.ctS S (sN n) (k : Int)) w4 w5 from hs5)
          clear hs5
          go_wp2_with fail
          go_ret2
          exact ⟨entR_nil rfl rfl, SfStep.ahead HH.out HB4.out HS5.out⟩
      · obtain ⟨e1, e2, e3⟩ := hfw hw
        rw [e1, e2, e3]
        clear e1 e2 e3 hfw hft hn HCT
        go_enter Tryz.func18, Tryz.ntmps18
        go_wp2_with fail
        refine HR.out.mono ?_
        rintro e w1 ⟨rfl, rfl⟩
        go_wp2_with fail
        refine (HNM.out _).mono ?_
        rintro e w1 ⟨rfl, hb1⟩
        have HB1 := Lib.hid hb1
        clear hb1
        go_wp2_with fail
        refine (HSZ.out _ HB1.out).mono ?_
        rintro e w2 ⟨rfl, rfl⟩
        go_wp2_with fail
        refine (HNM.out _).mono ?_
        rintro e w2 ⟨rfl, hb2⟩
        have HB2 := Lib.hid (HB1.out.trans (hb2.mono HB1.out.size))
        clear hb2
        go_wp2_with fail
        refine (HBY.out _ HB2.out).mono ?_
        rintro e w3 ⟨rfl, rfl⟩
        go_wp2_with fail
        refine (HOF.out _).mono ?_
        rintro e w3 ⟨a, cap, rfl, hen, hb3⟩
        have HE := Lib.hid hen; have HB3 := Lib.hid (HB2.out.trans (hb3.mono HB2.out.size))
        have HZ := Lib.hid HB2.out.size
        clear hen hb3
        go_wp2_with fail
        go_ret2
        exact ⟨ent_now HZ.out HE.out, SfStep.same HH.out HB3.out⟩
  · obtain ⟨e1, e2, e3⟩ := ld_arg (S := S) hn
    rw [e1, e2, e3]
    have HR := Lib.hid (right_no hn w)
    clear e1 e2 e3 hn
    go_enter Tryz.func18, Tryz.ntmps18
    go_wp2_with fail
    refine HR.out.mono ?_
    rintro e w1 ⟨rfl, rfl⟩
    go_wp2_with fail
    go_ret2
    exact ⟨entR_nil rfl rfl, SfStep.same h (Below.refl _ _)⟩
end Go.Proofs.YtmekkbhblghbmaaGreatDoor
