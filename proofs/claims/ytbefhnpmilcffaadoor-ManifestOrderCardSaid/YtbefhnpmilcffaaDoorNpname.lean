/- The program's names: objectName, Name, Object; Version, which has the library convert digits. -/
import Derived.Test.YtbefhnpmilcffaaDoorNpcalls
import Derived.Test.YtbefhnpmilcffaaDoorNlays
import Derived.Lib.AppendIntMem
import Derived.Lib.AtoiAllCases
namespace Go.Proofs.YtbefhnpmilcffaaDoor.J
open Go.RowKit Go.Shelf
set_option linter.unusedVariables false
set_option linter.unusedSimpArgs false

theorem digs_zero : ∀ k, digs k 0 = List.replicate k 48
  | 0 => rfl
  | k + 1 => by
    rw [digs, Nat.zero_div, digs_zero k, ← List.replicate_append_replicate (n := k) (m := 1)]
    rfl
theorem dec_digs : ∀ k n, n < 10 ^ (k + 1) → (Lib.decDigits n).length ≤ k + 1 ∧ digs (k + 1) n = List.replicate (k + 1 - (Lib.decDigits n).length) 48 ++ Lib.decDigits n
  | 0, n, h => by
    have h1 : n < 10 := by simpa using h
    rw [Lib.decDigits_one h1]
    refine ⟨by simp, ?_⟩
    simp [digs, dg, Nat.mod_eq_of_lt h1]
  | k + 1, n, h => by
    by_cases h1 : n < 10
    · rw [Lib.decDigits_one h1]
      refine ⟨by simp, ?_⟩
      rw [digs, Nat.div_eq_of_lt h1, digs_zero]
      simp [dg, Nat.mod_eq_of_lt h1]
    · have hlt : n / 10 < 10 ^ (k + 1) := by rw [Nat.div_lt_iff_lt_mul (by omega), ← Nat.pow_succ]; exact h
      obtain ⟨i1, i2⟩ := dec_digs k (n / 10) hlt
      have e : Lib.decDigits n = Lib.decDigits (n / 10) ++ [UInt8.ofNat (48 + n % 10)] := by rw [Lib.decDigits, dif_neg h1]
      rw [digs, i2, e, List.length_append, List.length_singleton]
      refine ⟨by omega, ?_⟩
      rw [show k + 1 + 1 - ((Lib.decDigits (n / 10)).length + 1) = k + 1 - (Lib.decDigits (n / 10)).length by omega, List.append_assoc]
      rfl
/-- A name's parts: the letter, so many zeros, the digits. -/
theorem name_parts (c : UInt8) {n : Int} (h0 : 0 ≤ n) (h1 : n ≤ 999999) : (Lib.itoa n).length ≤ 6 ∧ c :: dig n.toNat = [c] ++ Lib.repeatL [48] (6 - (Lib.itoa n).length) ++ Lib.itoa n := by
  obtain ⟨m, rfl⟩ : ∃ m : Nat, n = m := ⟨n.toNat, by omega⟩
  obtain ⟨i1, i2⟩ := dec_digs 5 m (by omega)
  rw [Lib.itoa_nonneg, Int.toNat_natCast]
  refine ⟨i1, ?_⟩
  have e := Lib.repeatL_replicate 48 1 (6 - (Lib.decDigits m).length)
  rw [show List.replicate 1 (48 : UInt8) = [48] from rfl, Nat.mul_one] at e
  rw [e, List.append_assoc, ← i2, dig_digs]
  rfl

theorem repX : Builder.Extra Tryd.prog laysRepeat_ren := {
  sizeBuilder := by kernel_rfl
  liesBuilder := by kernel_rfl
  t5 := laysRepeat.t5
  a5 := laysRepeat.a5
  z5 := laysRepeat.z5
  v5 := laysRepeat.v5
  infoByte := by kernel_rfl
  cellsByte := by kernel_rfl
  sizeByte := by kernel_rfl
  neB5 := by decide }
theorem rep_any (c : Nat) (w : World) (hc : c ≤ 6) : Calls Tryd.prog 56 #[.string ⟨#[48]⟩, .int .i64 c] w fun e w' => e = .returned (.string (bs (Lib.repeatL [48] c))) ∧ Below w.heap.size w w' :=
  Any.strings_Repeat laysRepeat repX ⟨#[48]⟩ c w (by omega) (by show 1 * c ≤ _; omega)
theorem itoa_any (n : Int) (w : World) (hV : Vt w) (hn : i64 n) : Calls Tryd.prog 55 #[.int .i64 n] w fun e w' => e = .returned (.string (bs (Lib.itoa n))) ∧ Below w.heap.size w w' :=
  (Any.strconv_Itoa laysItoa n hn.1 hn.2 w (hV.tabIs (by kernel_rfl))).mono fun e w' ⟨h, k, os, hw⟩ => ⟨h, hw ▸ Lib.below_grow _ w (Nat.le_refl _) k os⟩
theorem atoi_ok (s : List UInt8) (v : Int) (w : World) (hs : s.length ≤ 1000) (h : Lib.atoiAll s = .ok v) : Calls Tryd.prog 36 #[.string (bs s)] w fun e w' => e = .returned (.tuple #[.int .i64 v, .nilIface]) ∧ Below w.heap.size w w' :=
  (Any.strconv_Atoi_ok laysAtoi (bs s) (by rw [bs_size]; omega) v h w).mono fun e w' ⟨h, hw⟩ => ⟨h, by
    rcases hw with rfl | ⟨t, rfl⟩
    · exact Below.refl _ _
    · exact Lib.bytesWorld_below _ _ _⟩
theorem atoi_err (s : List UInt8) (w : World) (hV : Vt w) (hs : s.length ≤ 1000) (h : ∀ v, Lib.atoiAll s ≠ .ok v) : Calls Tryd.prog 36 #[.string (bs s)] w fun e w' => (∃ v te N, e = .returned (.tuple #[.int .i64 v, .iface te (.pointer (some ⟨N, 0, none⟩))])) ∧ Below w.heap.size w w' := by
  rcases hx : Lib.atoiAll s with v | _ | _
  · exact absurd hx (h v)
  · obtain ⟨te, pe, hc⟩ := hV.syn
    exact (Any.strconv_Atoi_syntax laysAtoi (bs s) (by rw [bs_size]; omega) hx _ w hc (Or.inr ⟨te, pe, rfl⟩)).mono fun e w' ⟨N, h1, _, _, h4⟩ => ⟨⟨_, _, N, h1⟩, h4⟩
  · obtain ⟨te, pe, hc⟩ := hV.rng
    exact (Any.strconv_Atoi_range laysAtoi (bs s) (by rw [bs_size]; omega) hx _ w hc (Or.inr ⟨te, pe, rfl⟩)).mono fun e w' ⟨N, h1, _, _, h4⟩ => ⟨⟨_, _, N, h1⟩, h4⟩
theorem trim_any (s : List UInt8) (w : World) : Calls Tryd.prog 37 #[.string (bs s), .string ⟨#[109]⟩] w fun e w' => e = .returned (.string (bs (Lib.trimPrefix s [109]))) ∧ w = w' :=
  (Any.strings_TrimPrefix laysTrim (bs s) ⟨#[109]⟩ w).mono fun e w' ⟨h1, h2⟩ => ⟨h1, h2.symm⟩

theorem parse_dg (acc m : Nat) (r : List UInt8) (h : acc < 1000000000000) : Lib.parseUint10 acc (dg m :: r) = Lib.parseUint10 (acc * 10 + m % 10) r := by
  rw [Lib.parseUint10, dg_toNat, if_pos (by omega), if_neg (by omega), if_neg (by omega)]
  congr 1
  omega
/-- Six digits are converted to their number. -/
theorem atoi_dig {n : Nat} (h : n ≤ 999999) : Lib.atoiAll (dig n) = .ok (n : Int) := by
  have e : Lib.parseUint10 0 (dig n) = .ok n := by
    unfold dig
    rw [parse_dg _ _ _ (by omega), parse_dg _ _ _ (by omega), parse_dg _ _ _ (by omega), parse_dg _ _ _ (by omega), parse_dg _ _ _ (by omega), parse_dg _ _ _ (by omega), Lib.parseUint10]
    congr 1
    omega
  have hne : dig n ≠ [] := by simp [dig]
  have hd : dig n = dg (n / 100000) :: [dg (n / 10000), dg (n / 1000), dg (n / 100), dg (n / 10), dg n] := rfl
  have t0 := dg_toNat (n / 100000)
  have hm : Lib.parseMag (dig n) = .ok n := by unfold Lib.parseMag; rw [if_neg hne, e]
  unfold Lib.atoiAll
  rw [hd]
  simp only
  rw [if_neg (by omega), ← hd, hm]
  simp only
  rw [if_neg (by omega), if_neg (by omega), if_neg (by omega)]

set_option maxRecDepth 100000 in
set_option maxHeartbeats 1000000 in
theorem objname_any (c : UInt8) (n : Int) (w : World) (hV : Vt w) (h0 : 0 ≤ n) (h1 : n ≤ 999999) :
    Calls Tryd.prog 40 #[.string (bs [c]), .int .i64 n] w fun e w' => e = .returned (.string (bs (c :: dig n.toNat))) ∧ Below w.heap.size w w' := by
  obtain ⟨h6, hp⟩ := name_parts c h0 h1
  have HI := Lib.hid (itoa_any n w hV (by unfold i64; omega))
  have HP := Lib.hid (rep_any (6 - (Lib.itoa n).length))
  have hA := bs_join [c] (Lib.repeatL [48] (6 - (Lib.itoa n).length))
  have hB := bs_join ([c] ++ Lib.repeatL [48] (6 - (Lib.itoa n).length)) (Lib.itoa n)
  have s1 : (bs [c]).size = 1 := bs_size _
  have s2 : (bs (Lib.itoa n)).size = (Lib.itoa n).length := bs_size _
  have s3 : (bs (Lib.repeatL [48] (6 - (Lib.itoa n).length))).size = 6 - (Lib.itoa n).length := by rw [bs_size, Lib.repeatL_length]; simp
  rw [← hp] at hB
  rw [hA] at hB
  have s4 : (bs [c] ++ bs (Lib.repeatL [48] (6 - (Lib.itoa n).length))).size = 1 + (6 - (Lib.itoa n).length) := by rw [ByteArray.size_append, s1, s3]
  have HB := Lib.hid hB
  generalize bs (Lib.itoa n) = I at *
  generalize bs [c] = Cc at *
  generalize bs (c :: dig n.toNat) = N at *
  obtain ⟨M, hM⟩ : ∃ M, (Lib.itoa n).length = M := ⟨_, rfl⟩
  rw [hM] at h6 s2 s3 s4 HP HB
  obtain ⟨K, hK⟩ : ∃ K, 6 - M = K := ⟨_, rfl⟩
  rw [hK] at s3 s4 HP HB
  generalize bs (Lib.repeatL [48] K) = R at *
  have q1 : IntKind.i64.wrap (6 - (M : Int)) = (K : Int) := by rw [IntWalk.i64_in _ ⟨by omega, by omega⟩]; omega
  clear hp hA hB hV hM
  go_enter Tryd.func40, Tryd.ntmps40
  go_wp2_with fail
  refine HI.out.mono ?_
  rintro e w1 ⟨rfl, hb1⟩
  have HB1 := Lib.hid hb1; clear hb1
  go_wp2_with fail
  first | rw [q1] | skip
  refine (HP.out _ (by omega)).mono ?_
  rintro e w2 ⟨rfl, hb2⟩
  have HB2 := Lib.hid (HB1.out.trans (hb2.mono HB1.out.size)); clear hb2
  go_wp2_with fail
  go_ret
  exact ⟨by rw [HB.out]; rfl, HB2.out⟩

set_option maxRecDepth 100000 in
theorem pname_any (v : Int) (w : World) (hV : Vt w) (hv : i64 v) : Calls Tryd.prog 20 #[.int .i64 v] w fun e w' => e = .returned (.string (bs (nm v))) ∧ Below w.heap.size w w' := by
  have HVV := Lib.hid (vv_any v)
  by_cases h : 1 ≤ v ∧ v ≤ 999999
  · rw [nm_yes h]
    have HO := Lib.hid (objname_any 109 v w hV (by omega) h.2)
    rw [decide_eq_true h] at HVV
    rw [show bs [109] = (⟨#[109]⟩ : ByteArray) from rfl] at HO
    clear h hV hv
    generalize bs (109 :: dig v.toNat) = N at *
    go_enter Tryd.func20, Tryd.ntmps20
    go_wp2_with fail
    refine (HVV.out _).mono ?_
    rintro e w1 ⟨rfl, rfl⟩
    go_wp2_with fail
    refine HO.out.mono ?_
    rintro e w2 ⟨rfl, b2⟩
    go_wp2_with fail
    go_ret
    exact ⟨rfl, b2⟩
  · rw [nm_no h]
    rw [decide_eq_false h] at HVV
    clear h hV hv
    go_enter Tryd.func20, Tryd.ntmps20
    go_wp2_with fail
    refine (HVV.out _).mono ?_
    rintro e w1 ⟨rfl, rfl⟩
    go_wp2_with fail
    go_ret
    exact ⟨rfl, Below.refl _ _⟩
set_option maxRecDepth 100000 in
theorem pobject_any (v : Int) (w : World) (hV : Vt w) (hv : i64 v) : Calls Tryd.prog 22 #[.int .i64 v] w fun e w' => e = .returned (.string (bs (ob v))) ∧ Below w.heap.size w w' := by
  have HVV := Lib.hid (vn_any v)
  by_cases h : 0 ≤ v ∧ v ≤ 999999
  · rw [ob_yes h]
    have HO := Lib.hid (objname_any 111 v w hV (by omega) h.2)
    rw [decide_eq_true h] at HVV
    rw [show bs [111] = (⟨#[111]⟩ : ByteArray) from rfl] at HO
    clear h hV hv
    generalize bs (111 :: dig v.toNat) = N at *
    go_enter Tryd.func22, Tryd.ntmps22
    go_wp2_with fail
    refine (HVV.out _).mono ?_
    rintro e w1 ⟨rfl, rfl⟩
    go_wp2_with fail
    refine HO.out.mono ?_
    rintro e w2 ⟨rfl, b2⟩
    go_wp2_with fail
    go_ret
    exact ⟨rfl, b2⟩
  · rw [ob_no h]
    rw [decide_eq_false h] at HVV
    clear h hV hv
    go_enter Tryd.func22, Tryd.ntmps22
    go_wp2_with fail
    refine (HVV.out _).mono ?_
    rintro e w1 ⟨rfl, rfl⟩
    go_wp2_with fail
    go_ret
    exact ⟨rfl, Below.refl _ _⟩

theorem trim_ver {s : List UInt8} {v : Int} (h : isVer s v) : Lib.atoiAll (Lib.trimPrefix s [109]) = .ok v := by
  obtain ⟨h1, h2⟩ := h
  rw [nm_yes h1] at h2
  rw [← h2, show Lib.trimPrefix (109 :: dig v.toNat) [109] = dig v.toNat by simp [Lib.trimPrefix, Lib.hasPrefix], atoi_dig (by omega)]
  congr 1
  omega

set_option maxRecDepth 100000 in
set_option maxHeartbeats 1000000 in
theorem pver_any (s : List UInt8) (w : World) (hV : Vt w) (hs : s.length ≤ 1000) : Calls Tryd.prog 16 #[.string (bs s)] w fun e w' => e = .returned (.tuple #[.int .i64 (vr s).1, .bool (vr s).2]) ∧ Below w.heap.size w w' := by
  have HT := Lib.hid (trim_any s w)
  have htl : (Lib.trimPrefix s [109]).length ≤ 1000 := by
    unfold Lib.trimPrefix
    split
    · rw [List.length_drop]; omega
    · exact hs
  by_cases hx : ∃ v, Lib.atoiAll (Lib.trimPrefix s [109]) = .ok v
  · obtain ⟨v, hx⟩ := hx
    have hb := Lib.atoiAll_bounds hx
    have HA := Lib.hid (atoi_ok _ v w htl hx)
    have HN := Lib.hid (fun W (hW : Below w.heap.size w W) => pname_any v W (hV.later hW) (by unfold i64; omega))
    have hcmp : ((bs (nm v)).toList == (bs s).toList) = decide (nm v = s) := by
      rw [bs_toList, bs_toList]
      by_cases h : nm v = s
      · rw [decide_eq_true h]; simpa using h
      · rw [decide_eq_false h]; simpa using h
    by_cases h : nm v = s
    · have hr : 1 ≤ v ∧ v ≤ 999999 := by
        refine Decidable.byContradiction fun hn => ?_
        rw [nm_no hn] at h
        subst h
        rw [show Lib.trimPrefix [] [109] = [] by simp [Lib.trimPrefix, Lib.hasPrefix]] at hx
        simp [Lib.atoiAll] at hx
      have HV := Lib.hid (vr_yes ⟨hr, h⟩)
      rw [decide_eq_true h] at hcmp
      rw [HV.out]
      clear h hr hx hs htl hV
      generalize bs s = X at *
      generalize bs (Lib.trimPrefix s [109]) = Y at *
      generalize bs (nm v) = Z at *
      go_enter Tryd.func16, Tryd.ntmps16
      go_wp2_with fail
      refine HT.out.mono ?_
      rintro e w1 ⟨rfl, rfl⟩
      go_wp2_with fail
      refine HA.out.mono ?_
      rintro e w2 ⟨rfl, b2⟩
      go_wp2_with fail
      refine (HN.out _ b2).mono ?_
      rintro e w3 ⟨rfl, b3⟩
      have HF := Lib.hid (b2.trans (b3.mono b2.size))
      go_wp2_with fail
      go_ret2
      exact ⟨rfl, HF.out⟩
    · have HV := Lib.hid (vr_no (s := s) (fun v' hv' => h (by
        have := trim_ver hv'
        rw [hx] at this
        injection this with this
        rw [this]; exact hv'.2)))
      rw [decide_eq_false h] at hcmp
      rw [HV.out]
      clear h hx hs htl hV
      generalize bs s = X at *
      generalize bs (Lib.trimPrefix s [109]) = Y at *
      generalize bs (nm v) = Z at *
      go_enter Tryd.func16, Tryd.ntmps16
      go_wp2_with fail
      refine HT.out.mono ?_
      rintro e w1 ⟨rfl, rfl⟩
      go_wp2_with fail
      refine HA.out.mono ?_
      rintro e w2 ⟨rfl, b2⟩
      go_wp2_with fail
      refine (HN.out _ b2).mono ?_
      rintro e w3 ⟨rfl, b3⟩
      have HF := Lib.hid (b2.trans (b3.mono b2.size))
      go_wp2_with fail
      go_ret2
      exact ⟨rfl, HF.out⟩
  · have HA := Lib.hid (atoi_err _ w hV htl (fun v h => hx ⟨v, h⟩))
    have HV := Lib.hid (vr_no (s := s) (fun v' hv' => hx ⟨v', trim_ver hv'⟩))
    rw [HV.out]
    clear hx hs htl hV
    generalize bs s = X at *
    generalize bs (Lib.trimPrefix s [109]) = Y at *
    go_enter Tryd.func16, Tryd.ntmps16
    go_wp2_with fail
    refine HT.out.mono ?_
    rintro e w1 ⟨rfl, rfl⟩
    go_wp2_with fail
    refine HA.out.mono ?_
    rintro e w2 ⟨⟨v, te, N, rfl⟩, b2⟩
    go_wp2_with fail
    go_ret2
    exact ⟨rfl, b2⟩
end Go.Proofs.YtbefhnpmilcffaaDoor.J
