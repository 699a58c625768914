/- The program's directory: the place of a key is searched. -/
import Derived.Test.YtbjginlhgedjdaaDoorKpdir
namespace Go.Proofs.YtbjginlhgedjdaaDoor.K
open Go.RowKit
set_option linter.unusedVariables false

section
variable {B pb rb n : Nat} {S : Dr} {w : World} {k : List UInt8}
/-- .. up to place f, from which on it is not gone on; what lies ahead of it is another key. -/
theorem psearch_at (h : Pk B w pb rb n S) (hM : Ml B w) (hk : k.length ≤ maxLen) {f : Nat} (hf : f < S.length) (hend : ∀ s, S[f]? = some (some s) → s.1 = k)
    (hpath : ∀ q, q < S.length → dist S.length (hm k S.length) q < dist S.length (hm k S.length) f → ∃ s : Ent Lc, S[q]? = some (some s) ∧ s.1 ≠ k) :
    Calls Tryd.prog 24 #[.pointer (some ⟨pb, 0, none⟩), .string (bs k)] w fun e w' => e = .returned (.int .i64 f) ∧ w = w' := by
  have hcs := h.few
  have hhm := homeLt k S.length (by omega)
  have HH := Lib.hid (phome_any h hM hk (by omega))
  have HE := Lib.hid (fun (i : Nat) (o : Option (Ent Lc)) (ho : S[i]? = some o) => pempty_any h ho)
  have HN := Lib.hid (fun (i : Nat) (hi : i < S.length) => pnext_any h hi)
  have c0 := h.head
  obtain ⟨L, hL⟩ : ∃ L, L = S.length := ⟨_, rfl⟩
  obtain ⟨H, hH⟩ : ∃ H, H = hm k L := ⟨_, rfl⟩
  rw [← hL] at c0 hcs hhm HH HN hf hpath
  rw [← hH] at hhm HH hpath
  obtain ⟨m, hm'⟩ : ∃ m, m = dist L H f := ⟨_, rfl⟩
  have hml := dist_lt hhm hf
  rw [← hm'] at hpath hml
  have HL := Lib.hid hL; have HR := Lib.hid h; have HEND := Lib.hid hend; have HP := Lib.hid hpath; have HM := Lib.hid hm'
  clear hL h hM hH hend hpath hm'
  go_enter Tryd.func24, Tryd.ntmps24
  go_wp2_with (go_at_call 30; refine HH.out.mono ?_; rintro e w1 ⟨rfl, rfl⟩)
  go_loopg [5] m (fun g it wr => ∃ n j : Nat, n + g = m ∧ it = .int .i64 j ∧ j < L ∧ dist L H j = n ∧ w = wr)
  case atStart => exact ⟨0, H, by omega, rfl, hhm, dist_self _ _, rfl⟩
  case round =>
    obtain ⟨q, j, hq, rfl, hjl, hd, rfl⟩ := hrel
    by_cases hlt : q < m
    · obtain ⟨s, hs, hne⟩ := HP.out j hjl (by rw [hd]; exact hlt)
      have HE1 := Lib.hid (HE.out _ _ hs)
      have HN1 := Lib.hid (HN.out _ hjl)
      have d0 := HR.out.cells hs (show 0 < 6 by omega)
      rw [Nat.add_zero] at d0
      simp only [slotv, List.getElem?_cons_zero] at d0
      have hneq : ((bs s.1).toList == (bs k).toList) = false := by rw [bs_toList, bs_toList]; simpa using hne
      have HNX := Lib.hid (dist_nx hhm hjl (by omega))
      have hnl := nx_lt hjl
      simp only [Option.isNone] at HE1
      clear hs hne
      generalize nx L j = j2 at *
      go_wp2_with (first
        | (go_at_call 25; refine HE1.out.mono ?_; rintro e w1 ⟨rfl, rfl⟩)
        | (go_at_call 29; refine HN1.out.mono ?_; rintro e w1 ⟨rfl, rfl⟩))
      go_roundg (gk - 1)
      case measure => omega
      case rel => exact ⟨q + 1, j2, by omega, rfl, hnl, by rw [HNX.out, hd], rfl⟩
    · obtain rfl : j = f := dist_inj hhm hjl hf (by rw [← HM.out]; omega)
      obtain ⟨o, ho⟩ : ∃ o, S[j]? = some o := ⟨S[j]'(by have := HL.out; omega), List.getElem?_eq_getElem _⟩
      have HE1 := Lib.hid (HE.out _ _ ho)
      cases o with
      | none =>
        simp only [Option.isNone] at HE1
        clear ho
        go_wp2_with (go_at_call 25; refine HE1.out.mono ?_; rintro e w1 ⟨rfl, rfl⟩)
        go_ret
        exact ⟨rfl, rfl⟩
      | some s =>
        have d0 := HR.out.cells ho (show 0 < 6 by omega)
        rw [Nat.add_zero] at d0
        simp only [slotv, List.getElem?_cons_zero] at d0
        have heq := HEND.out s ho
        rw [heq] at d0
        have hneq : ((bs k).toList == (bs k).toList) = true := by simp
        simp only [Option.isNone] at HE1
        clear ho heq
        go_wp2_with (go_at_call 25; refine HE1.out.mono ?_; rintro e w1 ⟨rfl, rfl⟩)
        go_ret
        exact ⟨rfl, rfl⟩
/-- A key that is there. -/
theorem psearch_yes (h : Pk B w pb rb n S) (hM : Ml B w) (hk : k.length ≤ maxLen) (hv : Inv hm S) {i : Nat} {v : Lc} (hi : Has S i k v) :
    Calls Tryd.prog 24 #[.pointer (some ⟨pb, 0, none⟩), .string (bs k)] w fun e w' => e = .returned (.int .i64 i) ∧ w = w' := by
  refine psearch_at h hM hk (has_lt hi) (fun s hs => ?_) (fun q hq hlt => ?_)
  · have hi' := hi
    unfold Has at hi'
    rw [hs] at hi'
    cases hi'; rfl
  · obtain ⟨k', v', hq'⟩ := not_empty hq (hv.path i k v hi q hq hlt)
    refine ⟨(k', v'), hq', fun e => ?_⟩
    have e : k' = k := e
    subst e
    obtain rfl := hv.one _ _ _ _ _ hq' hi
    omega
/-- A key that is not there: the place at which it would be laid. -/
theorem psearch_no (h : Pk B w pb rb n S) (hM : Ml B w) (hk : k.length ≤ maxLen) (hn : ∀ i v, ¬ Has S i k v) {e0 : Nat} (he : Empty S e0) :
    Calls Tryd.prog 24 #[.pointer (some ⟨pb, 0, none⟩), .string (bs k)] w fun e w' => e = .returned (.int .i64 ((ff S (hm k S.length) : Nat) : Int)) ∧ w = w' := by
  have hel := empty_lt he
  have hff := ff_first (homeLt k S.length (by omega)) he
  refine psearch_at h hM hk (empty_lt hff.1) (fun s hs => ?_) (fun q hq hlt => ?_)
  · have := hff.1
    unfold Empty at this
    rw [hs] at this; cases this
  · obtain ⟨k', v', hq'⟩ := not_empty hq (hff.2 q hq hlt)
    exact ⟨(k', v'), hq', fun e => hn q v' (by have e : k' = k := e; rw [← e]; exact hq')⟩
end
end Go.Proofs.YtbjginlhgedjdaaDoor.K
