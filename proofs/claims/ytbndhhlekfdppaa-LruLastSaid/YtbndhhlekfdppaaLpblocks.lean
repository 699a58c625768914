/- The program's Blocks: a copy of its keys. -/
import Derived.Test.YtbndhhlekfdppaaLpget
namespace Go.Proofs.Ytbndhhlekfdppaa.L
open Go.RowKit Go.Maps
set_option linter.unusedVariables false
theorem infoBkP : (Try.prog.info? 32).map (fun i => (i.zero, i.size, i.bytes)) = some (some (.agg #[.int .i64 0, .int .i64 0]), 2, 16) := by kernel_rfl
section
variable {B pb mb most : Nat} {os : List Bk} {l : List It} {w : World}
set_option maxHeartbeats 1000000 in
theorem pclone_any (h : Pm B w pb mb most os l) {n c : Nat} (hn : n ≤ 64) :
    Calls Try.prog 20 #[.slice (some ⟨pb, 1, none⟩) n c] w fun e w' => ∃ v, e = .returned v ∧ Bks w' w.heap.size v (os.take n) ∧ Below w.heap.size w w' := by
  obtain ⟨i0, hi0, hz0, hz1, hz2⟩ := info_parts infoBkP
  have HI := Lib.hid (And.intro hi0 (And.intro hz0 (And.intro hz1 hz2)))
  have hlen := h.len
  have hcl : (bflat (os.take n)).length = n * 2 := by rw [bflat_len, List.length_take]; omega
  have hb1 : Below w.heap.size w (w.alloc (.cells #[] 32)) := (Below.refl _ _).alloc (Nat.le_refl _) _
  have hP := h.below hb1
  have hsrc : Src Try.prog 2 40 (.slice (some ⟨pb, 1, none⟩) n c) n (bflat (os.take n)) (w.alloc (.cells #[] 32)) :=
    Src.ofSlice _ Try.underlying40 ⟨pb, 1, none⟩ n c _ hcl (fun j u hu => by
      have hj : j < n * 2 := by rw [← hcl]; exact (List.getElem?_eq_some_iff.1 hu).1
      rw [Addr.add_lit, cell_of_row _ pb _ _ _ (0, 0) hP.blk, List.getElem?_toArray, Nat.add_comm, cc, List.getElem?_cons_succ, List.getElem?_append_left (by rw [bflat_len]; omega), ← hu, bflat_take, List.getElem?_take, if_pos hj]) (bflat_one _)
  have hown : (w.alloc (.cells #[] 32)).ownsRow w.heap.size 32 2 (.slice (some ⟨w.heap.size, 0, none⟩) 0 0) 0 [] :=
    ⟨rfl, Or.inr ⟨w.heap.size, 0, #[], rfl, Nat.le_refl _, heap_alloc_new w _, Nat.le_refl _, by unfold maxLen; omega, rfl, rfl⟩⟩
  have HS := Lib.hid hsrc; have HW := Lib.hid hown
  have HB := Lib.hid hb1
  have htl : (os.take n).length = n := by rw [List.length_take]; omega
  have HTL := Lib.hid htl
  have q24 : ∀ (w : World) (a : Option Addr) (n c n' c' : Nat), (binOp .eql 40 (.slice a n c) (.slice none n' c')).run Try.prog w = .ok (.bool a.isNone) w := fun w a n c n' c' => Lib.run_eql_slice_nil w _ _ a n c n' c' Try.underlying40
  clear h hlen hcl hb1 hP hsrc hown hi0 hz0 hz1 hz2 htl
  go_enter Try.func20, Try.ntmps20
  go_wp2_with (at_builtin; refine wpList_append_row _ rfl _ _ 40 rfl w.heap.size 32 i0 _ 2 16 Try.underlying40 HI.out.1 HI.out.2.1 HI.out.2.2.1 HI.out.2.2.2 (by omega) rfl (.slice (some ⟨w.heap.size, 0, none⟩) 0 0) 0 [] rfl HW.out (.slice (some ⟨pb, 1, none⟩) n c) n _ rfl HS.out (by omega) (by rw [World.size_alloc]; omega) ?_; intro a' c' w3 h3 hg3 _; have H3 := Lib.hid h3; have HG3 := Lib.hid hg3; clear h3 hg3)
  go_ret
  refine ⟨_, rfl, ?_, Below.grown HB.out HG3.out (by rw [World.size_alloc]; omega) (fun j hj => ?_)⟩
  · unfold Bks
    rw [HTL.out]
    have := H3.out
    rw [Nat.zero_add, List.nil_append] at this
    exact this
  · have : w.heap.size = j := by simpa [Value.ownBlock] using hj
    omega
set_option maxHeartbeats 1000000 in
theorem pblocks_any (h : Pm B w pb mb most os l) (hk : os.take l.length = l.map Prod.fst) (hn : l.length ≤ 64) :
    Calls Try.prog 15 #[.pointer (some ⟨pb, 0, none⟩)] w fun e w' => ∃ v, e = .returned v ∧ Bks w' w.heap.size v (l.map Prod.fst) ∧ Below w.heap.size w w' := by
  have HO := Lib.hid (porder_any h hn)
  have HC := Lib.hid (fun (W : World) (hW : Below w.heap.size w W) => pclone_any (c := 64) (h.below hW) hn)
  rw [hk] at HC
  clear h hk
  generalize l.length = n at *
  go_enter Try.func15, Try.ntmps15
  go_wp2_with fail
  refine HO.out.mono ?_
  rintro e w1 ⟨rfl, hb1⟩
  have HB1 := Lib.hid hb1
  clear hb1
  go_wp2_with fail
  refine (HC.out w1 HB1.out).mono ?_
  rintro e w2 ⟨v, rfl, hv, hb2⟩
  obtain ⟨va, vc, hvv⟩ := slice_form hv
  rw [List.length_map] at hvv
  subst hvv
  have HV := Lib.hid hv; have HB2 := Lib.hid hb2
  clear hv hb2
  go_wp2
  go_ret
  exact ⟨_, rfl, row_base HV.out HB1.out.size, HB1.out.trans (HB2.out.mono HB1.out.size)⟩
end
end Go.Proofs.Ytbndhhlekfdppaa.L
