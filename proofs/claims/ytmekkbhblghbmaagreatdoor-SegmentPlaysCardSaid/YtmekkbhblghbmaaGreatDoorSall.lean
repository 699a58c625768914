/- The program's Number and All. -/
import Derived.Test.YtmekkbhblghbmaaGreatDoorSnum
import Derived.Test.YtmekkbhblghbmaaGreatDoorSboth
import Derived.Test.YtmekkbhblghbmaaGreatDoorScode
import Derived.Shelf.SortM.Plain
import Derived.Shelf.SortM.SortNone
namespace Go.Proofs.YtmekkbhblghbmaaGreatDoor
open Go.RowKit Go.Maps Go.Sort
set_option linter.unusedVariables false

/-! ### Number -/
theorem num_one (l : List UInt8) : Maps.has (numD [l]) (.string l) = isNum l ∧ (isNum l = true → ∀ z, (numD [l]).atKey (.string l) z = .lit (.int .i64 (numOf l))) := by
  refine ⟨?_, fun h z => numD_at (by simp) h z⟩
  rw [numD_has]
  cases isNum l <;> simp

set_option maxRecDepth 100000 in
set_option maxHeartbeats 1000000 in
theorem snumber_any (l : List UInt8) (w : World) (hl : l.length ≤ 1000) : Calls Tryz.prog 46 #[.string (bs l)] w fun e w' => e = .returned (.tuple #[.int .i64 (numVal l), .bool (isNum l)]) ∧ Below w.heap.size w w' := by
  have hb1 : Below w.heap.size w (w.alloc (.cells #[.string (bs l)] 9)) := (Below.refl _ _).alloc (Nat.le_refl _) _
  have HNB := Lib.hid (numbers_any [l] (some ⟨w.heap.size, 0, none⟩) 1 (w.alloc (.cells #[.string (bs l)] 9)) (by simp) (fun _ => ⟨w.heap.size, 0, rfl, by simp, fun i hi => by
    have : i = 0 := by simp at hi; omega
    subst this
    show (w.alloc (.cells #[.string (bs l)] 9)).cell? ⟨w.heap.size, 0, none⟩ = some (.string (bs l))
    rw [cell_of_row _ _ 0 #[.string (bs l)] _ (0, 0) (heap_alloc_new w _)]
    rfl⟩))
  rw [show ([l] : List (List UInt8)).length = 1 from rfl] at HNB
  simp only [World.size_alloc] at HNB
  have HB1 := Lib.hid hb1
  have HK := Lib.hid (show keyOf Tryz.prog 9 (.string (bs l)) = some (.string l) from WideMaps.keyOf_string_mk Tryz.underlying9 (by rw [bs_size]; unfold maxLen; omega))
  obtain ⟨h1, h2⟩ := num_one l
  have hv : numVal l = if isNum l then numOf l else 0 := rfl
  generalize bs l = X at *
  clear hb1 hl
  go_enter Tryz.func46, Tryz.ntmps46
  go_wp2_with fail
  refine HNB.out.mono ?_
  rintro e w1 ⟨rfl, hown, hb⟩
  have HO := Lib.hid hown; have HB := Lib.hid (HB1.out.trans (hb.mono (Nat.le_succ _)))
  clear hown hb
  go_wp2_with (first | (at_lookup; refine wpList_lookup_own_ok_int _ rfl _ _ 122 rfl 9 3 .i64 law8 Tryz.underlying122 Tryz.underlying3 (Tryz.zeroValue3 _) _ 1 _ rfl HO.out _ _ rfl HK.out ?_; intro c hat hwc) | fail)
  have hc : c = numVal l := by
    rw [hv]
    cases hi : isNum l with
    | true =>
      rw [h2 hi] at hat
      injection hat with hat
      injection hat with _ hat
      simpa using hat.symm
    | false =>
      rw [hi] at h1
      rw [atKey_of_not_has h1] at hat
      injection hat with hat
      injection hat with _ hat
      simpa using hat.symm
  rw [hc]
  have HB2 := HB.out
  clear hv h1 h2 hat hwc hc
  go_ret2
  exact ⟨rfl, HB2⟩

/-! ### All -/
theorem insert_len (x : Lit × DataW Unit) : ∀ l : List (Lit × DataW Unit), (DataW.insert x l).length = l.length + 1
  | [] => rfl
  | y :: l => by
    unfold DataW.insert
    split
    · rfl
    · rw [List.length_cons, insert_len x l, List.length_cons]
theorem inserts_len : ∀ l : List (Lit × DataW Unit), (l.foldr DataW.insert []).length = l.length
  | [] => rfl
  | y :: l => by rw [List.foldr_cons, insert_len, inserts_len l, List.length_cons]
/-- slices.Sort's two contracts at this seat. -/
theorem sorts8 (m : Nat) : AnyZI.SortsIn Tryz.prog laysSorted_ren Fence.wide m :=
  ⟨fun blk off cap ss W hH hblk hsz => callsIn_wide.2 (AnyM.slices_Sort_int laysSort blk off cap ss W hH hblk hsz),
   fun p cap W => callsIn_wide.2 (AnyM.slices_Sort_int_none laysSort p cap W)⟩

theorem names_in {T : TypeId} {w : World} {B : Nat} {a : Option Addr} {n cap : Nat} {l : List (List UInt8)} (h : w.ownsRow B T 1 (.slice a n cap) l.length (strs l)) : NamesIn w a l := by
  intro h0
  obtain ⟨hl, h⟩ := h
  rcases h with ⟨e, h1⟩ | ⟨g, c, cur, e, hB, hg, hn, hc, hs, ht⟩
  · omega
  · injection e with e1 e2 e3
    subst e1
    refine ⟨g, 0, rfl, (Array.getElem?_eq_some_iff.1 hg).1, fun i hi => ?_⟩
    rw [cell_of_row w g _ cur T (0, 0) hg]
    have h1 : (strs l)[i]? = some (.string (bs l[i])) := by rw [strs_at, List.getElem?_eq_getElem hi]; rfl
    rw [← ht, List.getElem?_take, if_pos (by omega)] at h1
    simpa using h1

theorem nums_of {w w' : World} {B : Nat} {v : Value} {l : List Int} (hB : w.heap.size ≤ B) (h : w'.ownsRow B 3 1 v l.length (intsV l)) (hb : Below w.heap.size w w') : NumsR w l (.returned v) w' := by
  have h2 : w'.ownsRow w.heap.size 3 1 v l.length (intsV l) := ownsRow_base_a h hB
  rcases h.2 with ⟨rfl, h1⟩ | ⟨g, c, cur, rfl, _⟩
  · rw [h1] at h2
    exact ⟨none, 0, by rw [h1], by rw [h1]; exact h2, hb⟩
  · exact ⟨_, _, rfl, h2, hb⟩

set_option maxRecDepth 100000 in
set_option maxHeartbeats 2000000 in
theorem sall_any {B pb : Nat} {S : D.St} {w : World} {F : Nat → Prop} (h : D.DkS B w pb F S) (hcs : S.fs.length < 1000000000) :
    Calls Tryz.prog 42 #[.pointer (some ⟨pb, 0, none⟩)] w (NumsR w (alL S)) := by
  have HLS := Lib.hid (D.list_any h hcs)
  have HG := Lib.hid h.good
  have HND := Lib.hid (names_nodup h.good)
  have HAL := Lib.hid (show alL S = ((S.fs.map D.Fl.nm).filter isNum).map numOf from rfl)
  have hnl : (S.fs.map D.Fl.nm).length < 1000000000 := by rw [List.length_map]; exact hcs
  generalize S.fs.map D.Fl.nm = ns at *
  refine (callsIn_wide (n := 6)).1 ?_
  refine callsIn_of_wp Tryz.func42 rfl trivial ?_ rfl
  simp only [Tryz.ntmps42, List.size_toArray, List.length_cons, List.length_nil, Nat.reduceAdd, Nat.reduceSub, Array.replicate_succ, Array.replicate_zero, List.push_toArray, List.append_toArray, List.nil_append, List.cons_append]
  gi_wp2_with fail
  refine ⟨trivial, (callsIn_wide.2 HLS.out).mono ?_⟩
  rintro e w1 ⟨v, rfl, ho, hb1⟩
  obtain ⟨a, cap, rfl⟩ : ∃ a cap, v = .slice a ns.length cap := by
    rcases ho.2 with ⟨rfl, h1⟩ | ⟨g, c, cur, rfl, _⟩
    · exact ⟨none, 0, by rw [h1]⟩
    · exact ⟨_, _, rfl⟩
  have HNB := Lib.hid (numbers_any ns a cap w1 (by omega) (names_in ho))
  have HB1 := Lib.hid hb1
  obtain ⟨N, hN⟩ : ∃ N, N = ns.length := ⟨_, rfl⟩
  have HN := Lib.hid hN
  rw [← hN] at HNB hnl ⊢
  clear hN ho hb1
  gi_wp2_with fail
  refine ⟨trivial, (callsIn_wide.2 HNB.out).mono ?_⟩
  rintro e w2 ⟨rfl, hown, hb2⟩
  have HO := Lib.hid hown; have HB2 := Lib.hid hb2
  obtain ⟨mb, hmb⟩ : ∃ mb, mb = w1.heap.size := ⟨_, rfl⟩
  rw [← hmb] at HO ⊢
  clear hown hb2 hmb
  have hsz : Maps.size (numD ns) ≤ N := by
    obtain ⟨es, clock, hb, Ft, hs, hD⟩ := HO.out
    rw [hD]
    exact Nat.le_trans (by show (List.foldr DataW.insert [] _).length ≤ _; rw [inserts_len, List.length_map]; simp) hs
  have hbl := HO.out.lt
  have hseq : SeqGives Fence.wide 2 Tryz.prog 121 #[.pointer (some ⟨w2.heap.size, 0, none⟩)] encZ (fun xs => ∃ ps, AnyY.AllOf (numD ns) ps ∧ xs = ps.map (·.2)) (Maps.size (numD ns)) (w2.alloc (.cells #[.map (some mb)] 122)) :=
    (AnyY.values_stops (ρ := laysValues_ren) { laysValues with } Fence.wide _ trivial rfl (by omega) w2.heap.size mb N (numD ns) _ (by simp) (by simp) (by
      obtain ⟨es, clock, hb, Ft, hs, hD⟩ := HO.out
      exact ⟨es, clock, (Below.heap_alloc _ _ mb hbl).trans hb, Ft, hs, hD⟩)).gives
  have cK : ∀ mb W, CallsIn Fence.wide 5 Tryz.prog 83 #[.map mb] W fun e w' => e = .returned (.func (.func 121) #[] #[.pointer (some ⟨W.heap.size, 0, none⟩)]) ∧ w' = W.alloc (.cells #[.map mb] 122) := fun mb W => AnyY.values_in laysValues Fence.wide 5 trivial rfl mb W
  have cS := AnyZI.sorted_in laysSorted Fence.wide 5 trivial trivial trivial trivial rfl (by omega) (sorts8 _) (enters_of Tryz.func120 (by kernel_rfl) rfl) 121 #[.pointer (some ⟨w2.heap.size, 0, none⟩)] trivial (enters_of Tryz.func121 (by kernel_rfl) rfl) _ _ (by unfold maxLen; omega) (by omega) _ hseq
  change CallsIn _ _ Tryz.prog 82 _ _ _ at cS
  have CS := Lib.hid cS
  clear cS hseq hsz
  gi_wp2_with fail
  refine ⟨trivial, (cK _ _).mono ?_⟩
  rintro e w3 ⟨rfl, rfl⟩
  gi_wp2_with fail
  refine ⟨trivial, CS.out.mono ?_⟩
  rintro e w4 ⟨v, ss, rfl, ⟨ps, hps, rfl⟩, hrow, hnil, hb4⟩
  have hperm : (ps.map (·.2)).Perm (alL S) := by rw [HAL.out]; exact numD_values HND.out hps
  have hso := sorted_is HG.out hperm
  rw [hso, hperm.length_eq] at hrow
  have hbe : Below w.heap.size w w4 := HB1.out.trans ((HB2.out.trans ((((Below.refl w2.heap.size w2).alloc (Nat.le_refl _) _).trans (hb4.mono (by simp))).mono HB2.out.size)).mono HB1.out.size)
  have hbs : w.heap.size ≤ (w2.alloc (.cells #[.map (some mb)] 122)).heap.size := by
    have h1 := HB1.out.size; have h2 := HB2.out.size
    simp; omega
  have HE := Lib.hid (nums_of hbs hrow hbe)
  clear hrow hnil hb4 hso hperm hps hbe hbs CS cK
  gi_wp2_with fail
  go_ret
  exact HE.out
end Go.Proofs.YtmekkbhblghbmaaGreatDoor
