/- The law KeydirHomes, walked. -/
import Derived.Test.YtbjginlhgedjdaaDoorKawake
namespace Go.Proofs.YtbjginlhgedjdaaDoor.K
open Go.RowKit
set_option linter.unusedVariables false

/-- What a call of the two laws without the document's answer leaves of a directory. -/
noncomputable def stepH (S : Dr) (o : Kop) : Dr := if o.d = 4 then delS S o.k else putS S o.k o.l
theorem fit_stepH {n : Nat} {S : Dr} (h : Fit n S) (hn : n < 150) {o : Kop} (hk : o.k.length ≤ 100) : Fit (n + 1) (stepH S o) := by
  unfold stepH
  split
  · exact (fit_del h o.k).1.mono (Nat.le_succ n)
  · exact (fit_put h hn (by omega) o.l).1

/-- A directory among the blocks from B on, as far as a script has gone. -/
structure Run (Pd : Nat → World → Nat → (Nat → Prop) → Dr → Prop) (B : Nat) (w1 w : World) (pb n : Nat) (S : Dr) : Prop where
  dir : ∃ F, Pd B w pb F S
  mul : Ml B w
  fit : Fit n S
  bel : Below w1.heap.size w1 w
  le : w1.heap.size ≤ B
/-- What was there when the law began is as it was. -/
def Bw (w W : World) : Prop := Below w.heap.size w W
theorem Bw.drew {w W : World} (h : Bw w W) : Bw w W.drew := Below.drew h
section
variable {Pd : Nat → World → Nat → (Nat → Prop) → Dr → Prop} {B pb n m : Nat} {w1 w w' : World} {S S' : Dr} {v : Value} {e : Ending}
theorem Run.old (C : DirC Pd) (h : Run Pd B w1 w pb n S) (hb : Below w.heap.size w w') : Run Pd B w1 w' pb n S := by
  obtain ⟨⟨F, hd⟩, h2, h3, h4, h5⟩ := h
  exact ⟨⟨F, C.kept hd (Turn.of_below (fun _ => False) hb (Nat.le_refl _)) (fun _ _ _ f => f)⟩, Ml.new h2 hb, h3, h4.trans (hb.mono h4.size), h5⟩
theorem Run.step (C : DirC Pd) {F : Nat → Prop} (h : Run Pd B w1 w pb n S) (hd : Pd B w pb F S) (hp : PdPost Pd B w pb F S' v e w') (hf : Fit m S') : Run Pd B w1 w' pb m S' := by
  obtain ⟨_, F', h1, h2, t⟩ := hp
  have hF := C.lt hd
  exact ⟨⟨F', h1⟩, Ml.turn h.mul t (fun k hk => (hF k hk).1), hf, h.bel.trans (t.below (fun k hk => Nat.le_trans h.le (hF k hk).1) h.bel.size), h.le⟩
end

set_option maxRecDepth 100000 in
set_option maxHeartbeats 2000000 in
theorem homes_walk {Pd : Nat → World → Nat → (Nat → Prop) → Dr → Prop} (C : DirC Pd) (l : List Kop) (a : Option Addr) (cap : Nat) (w : World) (hT : Ml w.heap.size w) (hl : l.length ≤ 9223372036854775807) (hK : KopsIn w a l) (hf : ∀ o ∈ l, o.fit) :
    Calls Tryd.prog 5 #[.slice a l.length cap] w fun e w' => e = .returned (.bool true) ∧ Below w.heap.size w w' := by
  have HC := Lib.hid C; have HT := Lib.hid hT; have HK := Lib.hid hK; have HF := Lib.hid hf
  obtain ⟨L, hL⟩ : ∃ L, L = l.length := ⟨_, rfl⟩
  have HLI := Lib.hid (fun w1 hb => light_any l a cap w1 w hl hK hf hb)
  rw [← hL] at hl HLI ⊢
  have HL := Lib.hid hL
  clear C hT hK hf hL
  go_enter Tryd.func5, Tryd.ntmps5
  go_wp2_with fail
  refine (awakeK_any HC.out w HT.out).mono ?_
  rintro e w1 ⟨rfl, b1⟩
  have B1 := Lib.hid b1
  clear b1
  go_wp2_with fail
  refine (HLI.out w1 B1.out).mono ?_
  rintro e w2 ⟨b, hbs, rfl, rfl⟩
  have HBS := Lib.hid hbs
  clear hbs
  go_wp2_with fail
  have M1 := Lib.hid (Ml.new HT.out B1.out)
  refine (HC.out.new w1 (Ml.kept M1.out rfl B1.out.size)).mono ?_
  rintro e w3 ⟨pb, F, rfl, h3, b3⟩
  have H3 := Lib.hid h3; have B3 := Lib.hid b3
  clear h3 b3
  cases b with
  | false =>
    go_wp2_with fail
    go_ret
    exact ⟨rfl, B1.out.trans (B3.out.mono B1.out.size)⟩
  | true =>
    obtain ⟨hs1, hs2⟩ := HBS.out rfl
    rw [← HL.out] at hs1
    have HS2 := Lib.hid hs2
    clear hs2
    go_wp2_with fail
    have hR0 : Run Pd w1.heap.size w1 w3 pb 0 (none' 8) := ⟨⟨F, H3.out⟩, Ml.new (Ml.kept M1.out rfl B1.out.size) B3.out, fit_new, B3.out, Nat.le_refl _⟩
    go_loopg [6] L (fun g it wr => ∃ (i : Nat) (S : Dr), i + g = L ∧ it = .int .i64 i ∧ Run Pd w1.heap.size w1 wr pb i S)
    case atStart => exact ⟨0, _, by omega, rfl, hR0⟩
    case round =>
      obtain ⟨i, S, hi, rfl, hR⟩ := hrel
      by_cases hlt : i < L
      · obtain ⟨o, ho⟩ : ∃ o, l[i]? = some o := ⟨l[i]'(by have := HL.out; omega), List.getElem?_eq_getElem _⟩
        have hom := List.mem_of_getElem? ho
        have hok := HS2.out o hom
        have hod := (HF.out o hom).1
        have hbw := B1.out.trans (hR.bel.mono B1.out.size)
        obtain ⟨b, off, rfl, hbl, c0, c1, c2, c3, c4, c5⟩ := HK.out.at hbw (Nat.le_refl _) i o ho
        have HRR := Lib.hid hR; have HO := Lib.hid ho; have HOM := Lib.hid hom
        have hFn := fit_stepH hR.fit (by omega) hok
        have HFN := Lib.hid hFn
        clear hR ho hom hFn hR0 hbw
        by_cases h4 : o.d = 4
        · have hS4 : stepH S o = delS S o.k := by unfold stepH; rw [if_pos h4]
          go_wp2_with fail
          obtain ⟨Fd, hd⟩ := HRR.out.dir
          refine (HC.out.del hd HRR.out.mul HRR.out.fit (k := o.k) (by omega)).mono ?_
          rintro e w4 hp
          obtain rfl := hp.1
          have HR4 := Lib.hid (HRR.out.step HC.out hd hp (by rw [← hS4]; exact HFN.out))
          rw [← hS4] at HR4
          clear hp hd
          have hbw4 := B1.out.trans (HR4.out.bel.mono B1.out.size)
          obtain ⟨b', off', hbe, _, q0, q1, q2, q3, q4, q5⟩ := HK.out.at hbw4 (Nat.le_refl _) i o HO.out
          cases hbe
          have hfl := farN_lt HR4.out.fit o.k
          have hcn := HR4.out.fit.cn
          have hfw := HR4.out.fit.few
          obtain ⟨Fd, hd⟩ := HR4.out.dir
          have HFAR := Lib.hid (HC.out.far hd HR4.out.mul HR4.out.fit (k := o.k) (by omega))
          obtain ⟨S2, hS2⟩ : ∃ S2, S2 = stepH S o := ⟨_, rfl⟩
          rw [← hS2] at HR4 hfl hcn hfw HFAR
          have HS2' := Lib.hid hS2
          clear hd q0 q2 q3 q4 q5 hbw4 hS2
          go_wp2_with fail
          refine HFAR.out.mono ?_
          rintro e w5 ⟨rfl, b5⟩
          have HR5 := Lib.hid (HR4.out.old HC.out b5)
          obtain ⟨Fd5, hd5⟩ := HR5.out.dir
          have HCAP := Lib.hid (HC.out.cap hd5 HR5.out.fit)
          clear b5 q1 hd5
          obtain ⟨f1, f2, f3⟩ := hfl
          generalize farN S2 o.k = f at *
          generalize hasB S2 o.k = hb at *
          generalize S2.length = len2 at *
          cases hb with
          | false =>
            obtain rfl := f3 rfl
            clear f2 f3
            go_wp2_with fail
            refine HCAP.out.mono ?_
            rintro e w6 ⟨rfl, b6⟩
            have HR6 := Lib.hid (HR5.out.old HC.out b6)
            clear b6
            go_wp2_with fail
            go_roundg (gk - 1)
            case measure => omega
            case rel => exact ⟨i + 1, S2, by omega, by go_num, HR6.out⟩
          | true =>
            have f4 := f2 rfl
            clear f2 f3
            go_wp2_with fail
            refine HCAP.out.mono ?_
            rintro e w6 ⟨rfl, b6⟩
            have HR6 := Lib.hid (HR5.out.old HC.out b6)
            obtain ⟨Fd6, hd6⟩ := HR6.out.dir
            have HLEN := Lib.hid (HC.out.len hd6 HR6.out.fit)
            clear b6 hd6
            generalize cnt S2 = cn2 at *
            go_wp2_with fail
            refine HLEN.out.mono ?_
            rintro e w7 ⟨rfl, b7⟩
            have HR7 := Lib.hid (HR6.out.old HC.out b7)
            clear b7
            go_wp2_with fail
            go_roundg (gk - 1)
            case measure => omega
            case rel => exact ⟨i + 1, S2, by omega, by go_num, HR7.out⟩
        · have hS4 : stepH S o = putS S o.k o.l := by unfold stepH; rw [if_neg h4]
          have HB0 := HRR.out.bel
          have hbw := B1.out.trans (HB0.mono B1.out.size)
          have hcell : ∀ j W, Bw w W → W.cell? ⟨b, off + i * 6 + j, none⟩ = wr.cell? ⟨b, off + i * 6 + j, none⟩ := fun j W hW => by
            rw [Below.cell (p := ⟨b, off + i * 6 + j, none⟩) hW hbl, Below.cell (p := ⟨b, off + i * 6 + j, none⟩) hbw hbl]
          have n1 : ∀ W, Bw w W → W.cell? ⟨b, off + i * 6 + 1, none⟩ = some (.string (bs o.k)) := fun W hW => (hcell 1 W hW).trans c1
          have n2 : ∀ W, Bw w W → W.cell? ⟨b, off + i * 6 + 2, none⟩ = some (.int .i64 o.l.seg) := fun W hW => (hcell 2 W hW).trans c2
          have n3 : ∀ W, Bw w W → W.cell? ⟨b, off + i * 6 + 2 + 1, none⟩ = some (.int .i64 o.l.off) := fun W hW => (hcell 3 W hW).trans c3
          have n4 : ∀ W, Bw w W → W.cell? ⟨b, off + i * 6 + 2 + 2, none⟩ = some (.int .i64 o.l.len) := fun W hW => (hcell 4 W hW).trans c4
          have n5 : ∀ W, Bw w W → W.cell? ⟨b, off + i * 6 + 2 + 3, none⟩ = some (.int .u64 o.l.seq) := fun W hW => (hcell 5 W hW).trans c5
          obtain ⟨Fd, hd⟩ := HRR.out.dir
          have HPUT := Lib.hid (fun W (hW : Old wr W) => HC.out.put (B := w1.heap.size) (w := W) (pb := pb) (F := Fd) (S := S) (n := i) (k := o.k) (HC.out.kept hd (Turn.of_below (fun _ => False) hW (Nat.le_refl _)) (fun _ _ _ f => f)) (Ml.new HRR.out.mul hW) HRR.out.fit (by omega) (by omega) o.l)
          simp only [locV] at HPUT
          have HSTEP : Hid (∀ W e w4, Old wr W → PdPost Pd w1.heap.size W pb Fd (putS S o.k o.l) (.tuple #[]) e w4 → Run Pd w1.heap.size w1 w4 pb (i + 1) (stepH S o)) := Lib.hid (fun W e w4 hW hp => by
            rw [hS4]
            exact (HRR.out.old HC.out hW).step HC.out (HC.out.kept hd (Turn.of_below (fun _ => False) hW (Nat.le_refl _)) (fun _ _ _ f => f)) hp (by rw [← hS4]; exact HFN.out))
          have K0 : Bw w wr := hbw
          clear hd hbw hcell HB0
          have h4' : ((o.d : Int) == 4) = false := by rw [beq_eq_false_iff_ne]; exact h4
          go_wp2_with fail
          go_region_held3 (fun W => Bw w W) (first | assumption | exact K0 | exact K0.drew | exact Bw.drew ‹_›)
            (first
              | (go_at_call 10
                 refine (HPUT.out _ (by first | exact (Old.refl _).drew | exact Old.refl _)).mono ?_
                 rintro e w4 hp
                 obtain rfl := hp.1
                 have HR4 := Lib.hid (HSTEP.out _ _ _ (by first | exact (Old.refl _).drew | exact Old.refl _) hp)
                 have hBw4 : Bw w w4 := B1.out.trans (HR4.out.bel.mono B1.out.size)
                 clear hp))
          clear n1 n2 n3 n4 n5 K0 hBw4
          have hbw4 := B1.out.trans (HR4.out.bel.mono B1.out.size)
          obtain ⟨b', off', hbe, _, q0, q1, q2, q3, q4, q5⟩ := HK.out.at hbw4 (Nat.le_refl _) i o HO.out
          cases hbe
          have hfl := farN_lt HR4.out.fit o.k
          have hcn := HR4.out.fit.cn
          have hfw := HR4.out.fit.few
          obtain ⟨Fd, hd⟩ := HR4.out.dir
          have HFAR := Lib.hid (HC.out.far hd HR4.out.mul HR4.out.fit (k := o.k) (by omega))
          obtain ⟨S2, hS2⟩ : ∃ S2, S2 = stepH S o := ⟨_, rfl⟩
          rw [← hS2] at HR4 hfl hcn hfw HFAR
          have HS2' := Lib.hid hS2
          clear hd q0 q2 q3 q4 q5 hbw4 hS2
          go_wp2_with fail
          refine HFAR.out.mono ?_
          rintro e w5 ⟨rfl, b5⟩
          have HR5 := Lib.hid (HR4.out.old HC.out b5)
          obtain ⟨Fd5, hd5⟩ := HR5.out.dir
          have HCAP := Lib.hid (HC.out.cap hd5 HR5.out.fit)
          clear b5 q1 hd5
          obtain ⟨f1, f2, f3⟩ := hfl
          generalize farN S2 o.k = f at *
          generalize hasB S2 o.k = hb at *
          generalize S2.length = len2 at *
          cases hb with
          | false =>
            obtain rfl := f3 rfl
            clear f2 f3
            go_wp2_with fail
            refine HCAP.out.mono ?_
            rintro e w6 ⟨rfl, b6⟩
            have HR6 := Lib.hid (HR5.out.old HC.out b6)
            clear b6
            go_wp2_with fail
            go_roundg (gk - 1)
            case measure => omega
            case rel => exact ⟨i + 1, S2, by omega, by go_num, HR6.out⟩
          | true =>
            have f4 := f2 rfl
            clear f2 f3
            go_wp2_with fail
            refine HCAP.out.mono ?_
            rintro e w6 ⟨rfl, b6⟩
            have HR6 := Lib.hid (HR5.out.old HC.out b6)
            obtain ⟨Fd6, hd6⟩ := HR6.out.dir
            have HLEN := Lib.hid (HC.out.len hd6 HR6.out.fit)
            clear b6 hd6
            generalize cnt S2 = cn2 at *
            go_wp2_with fail
            refine HLEN.out.mono ?_
            rintro e w7 ⟨rfl, b7⟩
            have HR7 := Lib.hid (HR6.out.old HC.out b7)
            clear b7
            go_wp2_with fail
            go_roundg (gk - 1)
            case measure => omega
            case rel => exact ⟨i + 1, S2, by omega, by go_num, HR7.out⟩
      · obtain rfl : i = L := by omega
        have HB := Lib.hid hR.bel
        clear hR hR0
        go_wp2_with fail
        go_ret
        exact ⟨rfl, B1.out.trans (HB.out.mono B1.out.size)⟩
end Go.Proofs.YtbjginlhgedjdaaDoor.K
