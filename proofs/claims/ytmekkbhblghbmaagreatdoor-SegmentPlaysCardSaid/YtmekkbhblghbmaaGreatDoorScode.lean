/- The program's segments, on the program's disk: contents, Told, Load. -/
import Derived.Test.YtmekkbhblghbmaaGreatDoorSboth
import Derived.Test.YtmekkbhblghbmaaGreatDoorHb
namespace Go.Proofs.YtmekkbhblghbmaaGreatDoor
open Go.RowKit
set_option linter.unusedVariables false

/-- What is asked of the names. -/
structure NmC : Prop where
  name : ∀ {B : Nat} (n : Int) (w : World), Tb B w → -9223372036854775808 ≤ n → n ≤ 9223372036854775807 → Calls Tryz.prog 28 #[.int .i64 n] w fun e w' => e = .returned (.string (bs (nameOf 115 n))) ∧ Below w.heap.size w w'
  hints : ∀ {B : Nat} (n : Int) (w : World), Tb B w → -9223372036854775808 ≤ n → n ≤ 9223372036854775807 → Calls Tryz.prog 48 #[.int .i64 n] w fun e w' => e = .returned (.string (bs (nameOf 104 n))) ∧ Below w.heap.size w w'

theorem sgv_any (n : Int) (w : World) : Calls Tryz.prog 52 #[.int .i64 n] w fun e w' => e = .returned (.bool (decide (segOk n))) ∧ w = w' := by
  by_cases h1 : 0 ≤ n
  · by_cases h2 : n ≤ 999999
    · rw [decide_eq_true (show segOk n from ⟨h1, h2⟩)]
      go_enter Tryz.func52, Tryz.ntmps52
      go_wp2
      go_ret
      exact ⟨rfl, rfl⟩
    · rw [decide_eq_false (show ¬ segOk n from fun h => h2 h.2)]
      go_enter Tryz.func52, Tryz.ntmps52
      go_wp2
      go_ret
      exact ⟨rfl, rfl⟩
  · rw [decide_eq_false (show ¬ segOk n from fun h => h1 h.1)]
    go_enter Tryz.func52, Tryz.ntmps52
    go_wp2
    go_ret
    exact ⟨rfl, rfl⟩
theorem sgv_yes {n : Int} (h : segOk n) (w : World) : Calls Tryz.prog 52 #[.int .i64 n] w fun e w' => e = .returned (.bool true) ∧ w = w' := by
  have := sgv_any n w
  rwa [decide_eq_true h] at this
theorem sgv_no {n : Int} (h : ¬ segOk n) (w : World) : Calls Tryz.prog 52 #[.int .i64 n] w fun e w' => e = .returned (.bool false) ∧ w = w' := by
  have := sgv_any n w
  rwa [decide_eq_false h] at this

/-! ### what is told -/
theorem dkB {B pb : Nat} {F : Nat → Prop} {S : D.St} {w w' : World} (h : D.DkS B w pb F S) (hb : Below w.heap.size w w') : D.DkS B w' pb F S := h.kept (Turn.of_below (fun _ => False) hb (Nat.le_refl _)) (fun _ _ _ f => f)
section
variable {T : TypeId} {B pb : Nat} {F : Nat → Prop} {S S' : D.St} {w w2 w3 w4 w' : World} {l : List Et} {x y : Int} {a : Option Addr} {cap : Nat}
theorem entd_of (h : D.DkS B w pb F S) (hn : NewA w.heap.size a) (he : EntsIn w' a l) (hb : Below w.heap.size w w') : DsPost B pb F S (EntD w l x) w (.returned (.tuple #[.slice a l.length cap, .int .i64 x])) w' :=
  ⟨F, ⟨a, cap, rfl, he, hn, fun A hA hf => by have h1 := (h.lt hf).2; have h2 := hn A hA; omega⟩, dkB h hb, fun _ hk => Or.inl hk, Turn.of_below _ hb (Nat.le_refl _)⟩
theorem entd_now (h : D.DkS B w pb F S) (hz : w.heap.size ≤ w2.heap.size) (ho : w'.ownsRow w2.heap.size T 5 (.slice a l.length cap) l.length (eflat l)) (hb : Below w.heap.size w w') :
    DsPost B pb F S (EntD w l x) w (.returned (.tuple #[.slice a l.length cap, .int .i64 x])) w' := by
  obtain ⟨a2, cap2, e, h1, h2⟩ := owns_ents2 ho
  injection e with e1 e2 e3
  subst e1 e3
  exact entd_of h (h2.mono hz) h1 hb
theorem entd_nil (h : DsStep B pb F S' w w') (hl : l = []) (hx : x = y) : DsPost B pb F S' (EntD w l x) w (.returned (.tuple #[.slice none 0 0, .int .i64 y])) w' := by
  subst hl hx
  obtain ⟨F', h1, h2, h3⟩ := h
  exact ⟨F', ⟨none, 0, rfl, EntsIn.nil _ _, (fun A hA => by cases hA), fun A hA => by cases hA⟩, h1, h2, h3⟩
theorem entd_kept (h : D.DkS B w pb F S) (hz : w.heap.size ≤ w2.heap.size) (ho : w3.ownsRow w2.heap.size T 5 (.slice a l.length cap) l.length (eflat l)) (hb3 : Below w.heap.size w w3) (hb4 : Below w3.heap.size w3 w4) (hs : DsStep B pb F S' w4 w') :
    DsPost B pb F S' (EntD w l x) w (.returned (.tuple #[.slice a l.length cap, .int .i64 x])) w' := by
  obtain ⟨F', hd, hF, t⟩ := hs
  have hb : Below w.heap.size w w4 := hb3.trans (hb4.mono hb3.size)
  have hg : ∀ g, (Value.slice a l.length cap).ownBlock = some g → w2.heap.size ≤ g ∧ g < w3.heap.size ∧ ¬ F g := fun g hg => by
    obtain ⟨h1, h2⟩ := ho.lt g hg
    exact ⟨h1, h2, fun hf => by have := (h.lt hf).2; omega⟩
  have ho5 : w'.ownsRow w2.heap.size T 5 (.slice a l.length cap) l.length (eflat l) := owns_kept (owns_kept ho (fun g hg' => hb4.block g (hg g hg').2.1)) (fun g hg' => t.block g (Nat.lt_of_lt_of_le (hg g hg').2.1 hb4.size) (hg g hg').2.2)
  have hab : ∀ A, a = some A → (Value.slice a l.length cap).ownBlock = some A.block := fun A hA => by
    subst hA
    rcases ho.2 with ⟨e, _⟩ | ⟨g, c, cur, e, _⟩
    · cases e
    · injection e with e1 e2 e3
      injection e1 with e1
      subst e1
      rfl
  obtain ⟨a2, cap2, e, h1, h2⟩ := owns_ents2 ho5
  injection e with e1 e2 e3
  subst e1 e3
  refine ⟨F', ⟨a, cap, rfl, h1, h2.mono hz, fun A hA hf => ?_⟩, hd, fun k hk => ?_, (Turn.of_below F hb (Nat.le_refl _)).trans t⟩
  · obtain ⟨g1, g2, g3⟩ := hg _ (hab A hA)
    rcases hF _ hf with hf | hf
    · exact g3 hf
    · have := hb4.size; omega
  · rcases hF k hk with hk | hk
    · exact Or.inl hk
    · exact Or.inr (Nat.le_trans hb.size hk)
end

/-! ### contents -/
theorem rdE_all {S : D.St} {n : List UInt8} {f : D.Fl} (hf : D.find S.fs n = some f) : D.rdE S n 0 (D.szN S n) = 0 := by
  unfold D.rdE
  rw [hf, szN_some hf]
  exact if_pos ⟨Int.le_refl 0, by omega, by omega⟩
set_option maxHeartbeats 1000000 in
theorem cont_any {B pb : Nat} {S : D.St} {w : World} {F : Nat → Prop} {n : List UInt8} (h : D.DkS B w pb F S) (hn : n.length ≤ maxLen) :
    Calls Tryz.prog 63 #[.pointer (some ⟨pb, 0, none⟩), .string (bs n)] w fun e w' => e = .returned (.tuple #[.string (bs (fileB S n)), .int .i64 (D.szE S n)]) ∧ Below w.heap.size w w' := by
  obtain ⟨z0, z1⟩ := szN_le h.good n
  have HSZ := Lib.hid (D.size_any h hn)
  have HRD := Lib.hid (fun (W : World) (hW : Below w.heap.size w W) => D.read_any (n := n) (off := 0) (m := D.szN S n) (dkB h hW) hn (by omega) (by omega) (by omega) (by omega))
  unfold D.szPost at HSZ
  unfold D.rdPost at HRD
  rw [rd_all] at HRD
  cases hf : D.find S.fs n with
  | none =>
    rw [szE_none hf, fileB_none hf]
    rw [szE_none hf] at HSZ
    generalize D.szN S n = z at *
    clear hf z0 z1 h HRD
    go_enter Tryz.func63, Tryz.ntmps63
    go_wp2_with fail
    refine HSZ.out.mono ?_
    rintro e w1 ⟨rfl, hb1⟩
    go_wp2_with fail
    go_ret2
    exact ⟨rfl, hb1⟩
  | some f =>
    rw [szE_some hf]
    rw [szE_some hf] at HSZ
    rw [rdE_all hf] at HRD
    generalize D.szN S n = z at *
    generalize fileB S n = b at *
    clear hf z0 z1 h
    go_enter Tryz.func63, Tryz.ntmps63
    go_wp2_with fail
    refine HSZ.out.mono ?_
    rintro e w1 ⟨rfl, hb1⟩
    have HB1 := Lib.hid hb1
    clear hb1
    go_wp2_with fail
    refine (HRD.out _ HB1.out).mono ?_
    rintro e w2 ⟨rfl, hb2⟩
    have HB2 := Lib.hid (HB1.out.trans (hb2.mono HB1.out.size))
    clear hb2
    go_wp2_with fail
    go_ret2
    exact ⟨rfl, HB2.out⟩

/-! ### Told -/
set_option maxHeartbeats 1000000 in
theorem told_any (C : NmC) {B pb : Nat} {S : D.St} {w : World} {F : Nat → Prop} (h : D.DkS B w pb F S) (hT : Tb B w) (n : Int) (hn1 : -9223372036854775808 ≤ n) (hn2 : n ≤ 9223372036854775807) (hcs : S.fs.length < 1000000000) :
    Calls Tryz.prog 25 #[.pointer (some ⟨pb, 0, none⟩), .int .i64 n] w (DsPost B pb F S (EntD w (tdL S n) (tdE S n)) w) := by
  by_cases hn : segOk n
  · have HNM := Lib.hid (C.hints n w hT hn1 hn2)
    have HR := Lib.hid (sgv_yes hn w)
    have hlm : (nameOf 104 n).length ≤ maxLen := by have := nameOf_len 104 n; unfold maxLen; omega
    have HCT := Lib.hid (fun (W : World) (hW : Below w.heap.size w W) => cont_any (dkB h hW) hlm)
    have HH := Lib.hid h
    cases hf : D.find S.fs (hN n) with
    | none =>
      obtain ⟨e1, e2⟩ := td_none hn hf
      rw [e1, e2]
      rw [show nameOf 104 n = hN n from rfl] at HCT HNM
      rw [szE_none hf, fileB_none hf] at HCT
      clear hf e1 e2 hn h hlm
      go_enter Tryz.func25, Tryz.ntmps25
      go_wp2_with fail
      refine HR.out.mono ?_
      rintro e w1 ⟨rfl, rfl⟩
      go_wp2_with fail
      refine HNM.out.mono ?_
      rintro e w1 ⟨rfl, hb1⟩
      have HB1 := Lib.hid hb1
      clear hb1
      go_wp2_with fail
      refine (HCT.out _ HB1.out).mono ?_
      rintro e w2 ⟨rfl, hb2⟩
      have HB2 := Lib.hid (HB1.out.trans (hb2.mono HB1.out.size))
      clear hb2
      go_wp2_with fail
      go_ret2
      exact entd_nil (DsStep.same HH.out HB2.out) rfl rfl
    | some f =>
      obtain ⟨e1, e2⟩ := td_some hn hf
      rw [e1, e2]
      rw [show nameOf 104 n = hN n from rfl] at HCT HNM
      rw [szE_some hf, fileB_some hf] at HCT
      have hfl := D.len_le h.good (D.find_mem hf).1
      have HRD := Lib.hid (fun (W : World) => hreadN_any f.bt W (by omega))
      clear hf e1 e2 hn h hlm hfl
      go_enter Tryz.func25, Tryz.ntmps25
      go_wp2_with fail
      refine HR.out.mono ?_
      rintro e w1 ⟨rfl, rfl⟩
      go_wp2_with fail
      refine HNM.out.mono ?_
      rintro e w1 ⟨rfl, hb1⟩
      have HB1 := Lib.hid hb1
      clear hb1
      go_wp2_with fail
      refine (HCT.out _ HB1.out).mono ?_
      rintro e w2 ⟨rfl, hb2⟩
      have HB2 := Lib.hid (HB1.out.trans (hb2.mono HB1.out.size))
      clear hb2
      go_wp2_with fail
      refine (HRD.out _).mono ?_
      rintro e w3 ⟨a, cap, rfl, hen, hnw, hb3⟩
      have HE := Lib.hid hen; have HN := Lib.hid hnw; have HB3 := Lib.hid hb3
      clear hen hnw hb3
      go_wp2_with fail
      go_ret2
      exact entd_of HH.out (HN.out.mono HB2.out.size) HE.out (HB2.out.trans (HB3.out.mono HB2.out.size))
  · obtain ⟨e1, e2⟩ := td_arg (S := S) hn
    rw [e1, e2]
    have HR := Lib.hid (sgv_no hn w)
    clear e1 e2 hn
    go_enter Tryz.func25, Tryz.ntmps25
    go_wp2_with fail
    refine HR.out.mono ?_
    rintro e w1 ⟨rfl, rfl⟩
    go_wp2_with fail
    go_ret2
    exact entd_nil (DsStep.same h (Below.refl _ _)) rfl rfl

/-! ### Load -/
set_option maxHeartbeats 2000000 in
theorem load_any (C : NmC) {B pb : Nat} {S : D.St} {w : World} {F : Nat → Prop} (h : D.DkS B w pb F S) (hT : Tb B w) (n : Int) (hn1 : -9223372036854775808 ≤ n) (hn2 : n ≤ 9223372036854775807) (hcs : S.fs.length < 1000000000) :
    Calls Tryz.prog 17 #[.pointer (some ⟨pb, 0, none⟩), .int .i64 n] w (DsPost B pb F (ldS S n) (EntD w (ldL S n) (ldE S n)) w) := by
  by_cases hn : segOk n
  · have HNM := Lib.hid (fun (W : World) (hW : Below w.heap.size w W) => C.name n W (hT.new hW) hn1 hn2)
    have HR := Lib.hid (sgv_yes hn w)
    have hlm : (nameOf 115 n).length ≤ maxLen := by have := nameOf_len 115 n; unfold maxLen; omega
    have HCT := Lib.hid (fun (W : World) (hW : Below w.heap.size w W) => cont_any (dkB h hW) hlm)
    have HH := Lib.hid h
    rw [show nameOf 115 n = sN n from rfl] at HCT HNM
    cases hf : D.find S.fs (sN n) with
    | none =>
      obtain ⟨e1, e2, e3⟩ := ld_none hn hf
      rw [e1, e2, e3]
      rw [szE_none hf, fileB_none hf] at HCT
      clear hf e1 e2 e3 hn h hlm
      go_enter Tryz.func17, Tryz.ntmps17
      go_wp2_with fail
      refine HR.out.mono ?_
      rintro e w1 ⟨rfl, rfl⟩
      go_wp2_with fail
      refine (HNM.out _ (Below.refl _ _)).mono ?_
      rintro e w1 ⟨rfl, hb1⟩
      have HB1 := Lib.hid hb1
      clear hb1
      go_wp2_with fail
      refine (HCT.out _ HB1.out).mono ?_
      rintro e w2 ⟨rfl, hb2⟩
      have HB2 := Lib.hid (HB1.out.trans (hb2.mono HB1.out.size))
      clear hb2
      go_wp2_with fail
      go_ret2
      exact entd_nil (DsStep.same HH.out HB2.out) rfl rfl
    | some f =>
      rw [szE_some hf, fileB_some hf] at HCT
      have hfl := D.len_le h.good (D.find_mem hf).1
      have HOF := Lib.hid (fun (W : World) => hofT_any f.bt W (by omega))
      have hfw := ld_whole (S := S) (n := n) (f := f) hn hf
      have hft := ld_torn (S := S) (n := n) (f := f) hn hf
      obtain ⟨ll, k, hfs⟩ : ∃ ll k, fs f.bt = (ll, k) := ⟨_, _, rfl⟩
      have hkl : k ≤ f.bt.length := by
        obtain ⟨_, h2, h3⟩ := fs_ok hfs
        rw [h3, List.length_append, ← h2]; omega
      rw [hfs] at HOF hfw hft
      dsimp only at HOF hfw hft
      obtain ⟨L, hL⟩ : ∃ L, L = f.bt.length := ⟨_, rfl⟩
      have hsz : (bs f.bt).size = L := by rw [bs_size, hL]
      rw [← hL] at hfl hkl hfw hft
      have HC := Lib.hid (fun (W : World) (hW : Below w.heap.size w W) => D.cut_any (n := sN n) (m := (k : Int)) (dkB h hW) hlm (by omega) (by omega) hcs)
      generalize bs f.bt = X at *
      clear hfs hf hL h hlm
      by_cases hw : k < L
      · obtain ⟨e1, e2, e3⟩ := hft hw
        rw [e1, e2]
        obtain ⟨x, hx⟩ : ∃ x, x = D.ctE S (sN n) (k : Int) := ⟨_, rfl⟩
        rw [← hx] at e3 HC ⊢
        by_cases hx0 : x = 0
        · rw [if_pos hx0] at e3
          rw [e3]
          have HX := Lib.hid hx; clear hx
          subst hx0
          clear e1 e2 e3 hfw hft hn
          go_enter Tryz.func17, Tryz.ntmps17
          go_wp2_with fail
          refine HR.out.mono ?_
          rintro e w1 ⟨rfl, rfl⟩
          go_wp2_with fail
          refine (HNM.out _ (Below.refl _ _)).mono ?_
          rintro e w1 ⟨rfl, hb1⟩
          have HB1 := Lib.hid hb1
          clear hb1
          go_wp2_with fail
          refine (HCT.out _ HB1.out).mono ?_
          rintro e w2 ⟨rfl, hb2⟩
          have HB2 := Lib.hid (HB1.out.trans (hb2.mono HB1.out.size))
          clear hb2
          go_wp2_with fail
          refine (HOF.out _).mono ?_
          rintro e w3 ⟨a, cap, rfl, hen, hb3⟩
          have HE := Lib.hid hen; have HB3 := Lib.hid (HB2.out.trans (hb3.mono HB2.out.size))
          have HZ := Lib.hid HB2.out.size
          clear hen hb3
          go_wp2_with fail
          refine (HNM.out _ HB3.out).mono ?_
          rintro e w4 ⟨rfl, hb4⟩
          have HB4 := Lib.hid (HB3.out.trans (hb4.mono HB3.out.size)); have HBB := Lib.hid hb4
          clear hb4
          go_wp2_with fail
          refine (HC.out _ HB4.out).mono ?_
          rintro e w5 ⟨rfl, hs5⟩
          have HS5 := Lib.hid (show DsStep B pb F (D.ctS S (sN n) (k : Int)) w4 w5 from hs5)
          clear hs5
          go_wp2_with fail
          go_ret2
          exact entd_kept HH.out HZ.out HE.out HB3.out HBB.out HS5.out
        · rw [if_neg hx0] at e3
          rw [e3]
          have HX := Lib.hid hx; clear hx
          clear e1 e2 e3 hfw hft hn
          go_enter Tryz.func17, Tryz.ntmps17
          go_wp2_with fail
          refine HR.out.mono ?_
          rintro e w1 ⟨rfl, rfl⟩
          go_wp2_with fail
          refine (HNM.out _ (Below.refl _ _)).mono ?_
          rintro e w1 ⟨rfl, hb1⟩
          have HB1 := Lib.hid hb1
          clear hb1
          go_wp2_with fail
          refine (HCT.out _ HB1.out).mono ?_
          rintro e w2 ⟨rfl, hb2⟩
          have HB2 := Lib.hid (HB1.out.trans (hb2.mono HB1.out.size))
          clear hb2
          go_wp2_with fail
          refine (HOF.out _).mono ?_
          rintro e w3 ⟨a, cap, rfl, hen, hb3⟩
          have HB3 := Lib.hid (HB2.out.trans (hb3.mono HB2.out.size))
          clear hen hb3
          go_wp2_with fail
          refine (HNM.out _ HB3.out).mono ?_
          rintro e w4 ⟨rfl, hb4⟩
          have HB4 := Lib.hid (HB3.out.trans (hb4.mono HB3.out.size))
          clear hb4
          go_wp2_with fail
          refine (HC.out _ HB4.out).mono ?_
          rintro e w5 ⟨rfl, hs5⟩
          have HS5 := Lib.hid (show DsStep B pb F (D.ctS S (sN n) (k : Int)) w4 w5 from hs5)
          clear hs5
          go_wp2_with fail
          go_ret2
          exact entd_nil (DsStep.ahead HH.out HB4.out HS5.out) rfl rfl
      · obtain ⟨e1, e2, e3⟩ := hfw hw
        rw [e1, e2, e3]
        clear e1 e2 e3 hfw hft hn HC
        go_enter Tryz.func17, Tryz.ntmps17
        go_wp2_with fail
        refine HR.out.mono ?_
        rintro e w1 ⟨rfl, rfl⟩
        go_wp2_with fail
        refine (HNM.out _ (Below.refl _ _)).mono ?_
        rintro e w1 ⟨rfl, hb1⟩
        have HB1 := Lib.hid hb1
        clear hb1
        go_wp2_with fail
        refine (HCT.out _ HB1.out).mono ?_
        rintro e w2 ⟨rfl, hb2⟩
        have HB2 := Lib.hid (HB1.out.trans (hb2.mono HB1.out.size))
        clear hb2
        go_wp2_with fail
        refine (HOF.out _).mono ?_
        rintro e w3 ⟨a, cap, rfl, hen, hb3⟩
        have HE := Lib.hid hen; have HB3 := Lib.hid (HB2.out.trans (hb3.mono HB2.out.size))
        have HZ := Lib.hid HB2.out.size
        clear hen hb3
        go_wp2_with fail
        go_ret2
        exact entd_now HH.out HZ.out HE.out HB3.out
  · obtain ⟨e1, e2, e3⟩ := ld_arg (S := S) hn
    rw [e1, e2, e3]
    have HR := Lib.hid (sgv_no hn w)
    clear e1 e2 e3 hn
    go_enter Tryz.func17, Tryz.ntmps17
    go_wp2_with fail
    refine HR.out.mono ?_
    rintro e w1 ⟨rfl, rfl⟩
    go_wp2_with fail
    go_ret2
    exact entd_nil (DsStep.same h (Below.refl _ _)) rfl rfl
end Go.Proofs.YtmekkbhblghbmaaGreatDoor
