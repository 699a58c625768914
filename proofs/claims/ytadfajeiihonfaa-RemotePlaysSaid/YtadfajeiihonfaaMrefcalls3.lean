/- The document's remote: List; two lists that are the same. -/
import Derived.Test.YtadfajeiihonfaaMrefcalls2
import Derived.Deep.QuietTactic
import Derived.BigQuiet
namespace Go.Proofs.Ytadfajeiihonfaa
open Go.RowKit Go.Maps
set_option linter.unusedVariables false

theorem infoStr : (Try.prog.info? 9).map (fun i => (i.zero, i.size, i.bytes)) = some (some (.string ⟨#[]⟩), 1, 16) := by kernel_rfl
theorem strs_snoc (ns : List (List UInt8)) (n : List UInt8) : strs (ns ++ [n]) = strs ns ++ [.string (bs n)] := by simp [strs]
theorem owns_form {w : World} {B n : Nat} {e : TypeId} {v : Value} {xs : List Value} (h : w.ownsRow B e 1 v n xs) : ∃ a cap, v = .slice a n cap := by
  rcases owns_cases h with ⟨rfl, rfl, _⟩ | ⟨g, cap, cur, hv, _⟩
  · exact ⟨none, 0, rfl⟩
  · exact ⟨_, cap, hv⟩
theorem cell_one_new (w : World) (c0 : Value) (t : TypeId) : ∀ j u, [c0][j]? = some u → (w.alloc (.cells #[c0] t)).cell? ((⟨w.heap.size, 0, none⟩ : Addr).add j) = some u := by
  intro j u hu
  rw [show (⟨w.heap.size, 0, none⟩ : Addr).add j = ⟨w.heap.size, j, none⟩ from by simp [Addr.add]; omega, World.cell?_alloc_mark]
  simpa using hu

/-- What is behind the document's List. -/
def rlistPost (B qb : Nat) (lv sv : Value) (S' : Rs) (ns : List (List UInt8)) (x : Int) (w : World) (e : Ending) (w' : World) : Prop :=
  ∃ va vc, e = .returned (.tuple #[.slice va ns.length vc, .int .i64 x]) ∧ Names w w' (.slice va ns.length vc) ns ∧ RfStep B qb lv sv w S' w'

set_option maxHeartbeats 1000000 in
set_option maxRecDepth 100000 in
theorem reflist_any {B qb : Nat} {lv sv : Value} {S : Rs} {w : World} (h : Rf B w qb lv sv S) (hc : S.n < 1000000000000) (hf : S.obs.length < 1000000000) :
    Calls Try.prog 17 #[.pointer (some ⟨qb, 0, none⟩)] w (rlistPost B qb lv sv (used S) (namesIf S) (errOf S 0) w) := by
  have HF := Lib.hid (reffate_any h hc)
  rcases fate_three S with hk | hk | hk
  · rw [err_far _ (Or.inl hk), names_far (Or.inl hk)]
    have HK := Lib.hid hk
    clear h hk
    go_enter Try.func17, Try.ntmps17
    go_wp2_with fail
    refine HF.out.mono ?_
    rintro e w1 ⟨rfl, hs⟩
    rw [HK.out]
    go_wp2_with fail
    go_ret2
    exact ⟨none, 0, rfl, World.ownsRow_nil _ _ _ _, hs⟩
  · rw [err_far _ (Or.inr hk), names_far (Or.inr hk)]
    have HK := Lib.hid hk
    clear h hk
    go_enter Try.func17, Try.ntmps17
    go_wp2_with fail
    refine HF.out.mono ?_
    rintro e w1 ⟨rfl, hs⟩
    rw [HK.out]
    go_wp2_with fail
    go_ret2
    exact ⟨none, 0, rfl, World.ownsRow_nil _ _ _ _, hs⟩
  · rw [err_fine _ (by unfold far; omega), names_fine (by unfold far; omega)]
    have j1 : (fateOf S == 1) = false := by simpa using hk.1
    have j2 : (fateOf S == 2) = false := by simpa using hk.2
    obtain ⟨i0, hi0, hz0, hz1, hz2⟩ := info_parts infoStr
    have HI0 := Lib.hid (And.intro hi0 (And.intro hz0 (And.intro hz1 hz2)))
    clear hi0 hz0 hz1 hz2 h hk
    go_enter Try.func17, Try.ntmps17
    go_wp2_with fail
    refine HF.out.mono ?_
    rintro e w1 ⟨rfl, lv1, sv1, h1, f1, t1⟩
    obtain ⟨c1, _, _, _⟩ := h1.cells
    obtain ⟨a, cap, hv⟩ := objs_form h1.row
    obtain ⟨L, hL⟩ : ∃ L, L = S.obs.length := ⟨_, rfl⟩
    have hrow := h1.row
    have hq := (h1.lt (Or.inl rfl)).2
    subst hv
    rw [show (used S).obs = S.obs from rfl, ← hL] at hrow c1
    rw [← hL] at hf
    have HL := Lib.hid hL; have HR := Lib.hid hrow; have H1 := Lib.hid h1; have HT := Lib.hid (And.intro f1 t1)
    clear hL hrow h1 f1 t1
    go_wp2_with fail
    go_loopg [5, 6] L (fun g s it wr => ∃ (i : Nat) (u : Value), i + g = L ∧ it = .int .i64 i ∧ u = s ∧ wr.ownsRow w1.heap.size 9 1 u (((S.obs.take i).map Ob.nm).length) (strs ((S.obs.take i).map Ob.nm)) ∧ Below w1.heap.size w1 wr)
    case atStart => exact ⟨0, _, by omega, rfl, rfl, World.ownsRow_nil _ _ _ _, Below.refl _ _⟩
    case round =>
      obtain ⟨i, u, hi, rfl, rfl, hown, hbw⟩ := hrel
      rw [← hbw.cell (p := ⟨qb, 0, none⟩) hq] at c1
      by_cases hlt : i < L
      · obtain ⟨f, hf⟩ : ∃ f, S.obs[i]? = some f := ⟨S.obs[i]'(by have := HL.out; omega), List.getElem?_eq_getElem _⟩
        obtain ⟨g, hg, _, hgl, d0, d1⟩ := objs_at HR.out hf
        subst hg
        rw [← hbw.cell (p := ⟨g, _, none⟩) hgl] at d0
        have htk : (S.obs.take (i + 1)).map Ob.nm = (S.obs.take i).map Ob.nm ++ [f.nm] := by rw [List.take_add_one, hf]; simp
        have HT2 := Lib.hid htk
        have hml : ((S.obs.take i).map Ob.nm).length ≤ i := by rw [List.length_map]; exact List.length_take_le _ _
        have hbz := hbw.size
        clear htk hf d1
        have HO := Lib.hid hown; have HBW := Lib.hid hbw; clear hown
        go_wp2_with (first
          | (at_builtin; refine wpList_append_own_at _ rfl _ _ 38 rfl w1.heap.size 9 i0 _ 1 16 Try.underlying38 HI0.out.1 HI0.out.2.1 HI0.out.2.2.1 HI0.out.2.2.2 rfl (by decide) _ _ _ rfl (HO.out.alloc _) ⟨wr.heap.size, 0, none⟩ 1 1 [.string (bs f.nm)] rfl rfl (cell_one_new _ _ _) (by simp [Value.oneCell']) (by unfold maxLen; omega) (by omega) (by simp; omega) ?_; intro v' w2 hown' hgrow hnil hloc)
          | fail)
        go_roundg (gk - 1)
        case measure => omega
        case rel =>
          refine ⟨i + 1, _, by omega, by go_num, rfl, ?_, Below.grown (HBW.out.alloc hbz _) hgrow (by simp; omega) (fun j hj => (HO.out.lt _ hj).1)⟩
          rw [HT2.out, strs_snoc, List.length_append]
          exact hown'
      · obtain rfl : i = L := by omega
        have hall : S.obs.take i = S.obs := List.take_of_length_le (by rw [HL.out]; exact Nat.le_refl _)
        rw [hall] at hown
        clear hall
        obtain ⟨ua, uc, hu⟩ := owns_form hown
        obtain ⟨M, hM⟩ : ∃ M, M = (S.obs.map Ob.nm).length := ⟨_, rfl⟩
        rw [← hM] at hown hu
        subst hu
        have HM := Lib.hid hM; have HO := Lib.hid hown; have HBW := Lib.hid hbw; clear hM hown
        go_wp2_with fail
        go_ret2
        have hsz := HT.out.2.size
        refine ⟨ua, uc, by rw [← HM.out]; rfl, ?_, RfStep.on HT.out.1 HT.out.2 ⟨_, sv1, H1.out.below HBW.out, fun k hk => Or.inl hk, Turn.of_below _ HBW.out (Nat.le_refl _)⟩⟩
        unfold Names
        rw [← HM.out]
        exact ownsRow_base_a HO.out hsz

/-- Two lists of the same names. -/
theorem strings_same {w : World} {Ba Bb : Nat} {a b : Option Addr} {ca cb : Nat} {ns : List (List UInt8)} (ha : w.ownsRow Ba 9 1 (.slice a ns.length ca) ns.length (strs ns)) (hb : w.ownsRow Bb 9 1 (.slice b ns.length cb) ns.length (strs ns)) (hn : ns.length < 1000000000) :
    Calls Try.prog 18 #[.slice a ns.length ca, .slice b ns.length cb] w fun e w' => e = .returned (.bool true) ∧ Below w.heap.size w w' := by
  obtain ⟨L, hL⟩ : ∃ L, L = ns.length := ⟨_, rfl⟩
  rw [← hL] at ha hb hn ⊢
  have HL := Lib.hid hL; have HA := Lib.hid ha; have HB := Lib.hid hb
  clear hL ha hb
  go_enter Try.func18, Try.ntmps18
  go_wp2
  go_loopg [5] L (fun g it wr => ∃ (i q : Nat), i + g = L ∧ it = .int .i64 i ∧ wr = w.drewN q)
  case atStart => exact ⟨0, 0, by omega, rfl, rfl⟩
  case round =>
    obtain ⟨i, q, hi, rfl, rfl⟩ := hrel
    by_cases hlt : i < L
    · obtain ⟨n, hn'⟩ : ∃ n, ns[i]? = some n := ⟨ns[i]'(by have := HL.out; omega), List.getElem?_eq_getElem _⟩
      have hcell : ∀ {B : Nat} {a : Option Addr} {c : Nat}, w.ownsRow B 9 1 (.slice a L c) L (strs ns) → ∃ g, a = some ⟨g, 0, none⟩ ∧ w.cell? ⟨g, i, none⟩ = some (.string (bs n)) := by
        intro B a c h
        rcases owns_cases h with ⟨_, h0, _⟩ | ⟨g, cap', cur, hv, _, _, _, _, _, _, _, _, hce, _⟩
        · omega
        · injection hv with e1 e2 e3
          exact ⟨g, e1, by rw [hce i hlt, strs_at, hn']; rfl⟩
      obtain ⟨ga, hga, da⟩ := hcell HA.out
      obtain ⟨gb, hgb, db⟩ := hcell HB.out
      subst hga hgb
      clear hcell hn'
      go_wp2
      go_quiet (fail)
      go_wp2
      go_roundg (gk - 1)
      case measure => omega
      case rel => exact ⟨i + 1, _, by omega, by go_num, rfl⟩
    · obtain rfl : i = L := by omega
      go_wp2
      go_ret
      exact ⟨rfl, ⟨rfl, rfl, rfl, Nat.le_refl _, fun _ _ => rfl⟩⟩
end Go.Proofs.Ytadfajeiihonfaa
