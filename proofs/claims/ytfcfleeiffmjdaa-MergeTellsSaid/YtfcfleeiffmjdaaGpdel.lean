/- The library's IndexFunc and DeleteFunc, of records that are gone. -/
import Derived.Test.YtfcfleeiffmjdaaGpcomb
import Derived.Laws.CopyRow
namespace Go.Proofs.Ytfcfleeiffmjdaa.G
open Go.RowKit
set_option linter.unusedVariables false
set_option linter.unusedSimpArgs false

def goneF : Value := .func (.func 25) #[] #[]
theorem zeroCells_len (n : Nat) : (Builtin.zeroCells (rv Rc.z).cells n).toList.length = n * 4 := by
  simp [Builtin.zeroCells, rv, Value.cells]
theorem zeroCells_one (n : Nat) : ∀ v ∈ (Builtin.zeroCells (rv Rc.z).cells n).toList, v.oneCell' = true := by
  intro v hv
  obtain ⟨i, hi, rfl⟩ := List.mem_iff_getElem.1 hv
  simp only [Builtin.zeroCells, rv, Value.cells, Array.toList_ofFn, List.getElem_ofFn]
  have : i % 4 < 4 := Nat.mod_lt _ (by omega)
  rcases (by omega : i % 4 = 0 ∨ i % 4 = 1 ∨ i % 4 = 2 ∨ i % 4 = 3) with e | e | e | e <;> simp [e] <;> rfl
/-- The tail of a row is emptied. -/
theorem clear_tail {w : World} {B g n cap : Nat} {l : List Rc} (h : Rw w B (.slice (some ⟨g, 0, none⟩) n cap) l) {i : Nat} (hi : i < l.length) :
    ∃ w', (∀ ty, (Builtin.clear_ #[25] ty #[.slice (some ⟨g, i * 4, none⟩) (l.length - i) (cap - i)]).run Try.prog w = .ok (.tuple #[]) w') ∧ Rw w' B (.slice (some ⟨g, 0, none⟩) i cap) (l.take i) ∧ w.grownBy w' (some g) := by
  have hlen : (l.take i).length = i := by rw [List.length_take]; omega
  rcases rw_cases h with ⟨h0, _⟩ | ⟨g', cap', cur, hv, hB, hgl, hg, hn, hc, hs, ht, hf⟩
  · cases h0
  · injection hv with e1 e2 e3
    injection e1 with e1
    injection e1 with e1
    subst e1 e2 e3
    have hst := run_storeCells_at Try.prog g (i * 4) 35 (Builtin.zeroCells (rv Rc.z).cells (l.length - i)).toList 0 cur w hg (by rw [zeroCells_len]; omega) (zeroCells_one _)
    obtain ⟨X, hX⟩ : ∃ X, X = (List.take (i * 4 + 0) cur.toList ++ (Builtin.zeroCells (rv Rc.z).cells (l.length - i)).toList ++ List.drop (i * 4 + 0 + (Builtin.zeroCells (rv Rc.z).cells (l.length - i)).toList.length) cur.toList).toArray := ⟨_, rfl⟩
    rw [← hX] at hst
    refine ⟨w.setRow g X, fun ty => ?_, ⟨by rw [flat_len], Or.inr ⟨g, cap, X, by rw [hlen], hB, setRow_heap w g cur X 35 _ hg, by rw [hlen]; omega, hc, ?_, ?_⟩⟩, ⟨rfl, rfl, rfl, by simp [World.setRow], fun k _ hk => setRow_other w g k _ (fun e => hk (by rw [e]))⟩⟩
    · obtain ⟨m, hm⟩ : ∃ m, l.length - i = m + 1 := ⟨l.length - i - 1, by omega⟩
      rw [hm] at hst ⊢
      simp [Builtin.clear_, run_underlying Try.underlying25, zeroRec]
      change ((Sem.run _ (storeCells _ (Builtin.zeroCells (rv Rc.z).cells (m + 1)).toList) w).andThen _) = _
      rw [hst]; rfl
    · have := zeroCells_len (l.length - i)
      rw [hX]
      simp only [Nat.add_zero, List.size_toArray, List.length_append, List.length_take, List.length_drop, Array.length_toList, this]
      omega
    · rw [hX]
      apply List.ext_getElem?
      intro j
      rw [List.getElem?_take, hlen, flat_take, List.getElem?_take]
      by_cases hj : j < i * 4
      · rw [if_pos hj, if_pos hj, Nat.add_zero, List.append_assoc, List.getElem?_append_left (by rw [List.length_take, Array.length_toList]; omega), List.getElem?_take, if_pos hj]
        have := ht j (by omega)
        rw [cell_of_row w g j cur _ (0, 0) hg] at this
        rw [← this]; simp
      · rw [if_neg hj, if_neg hj]
/-- The first that is gone. -/
def At (l : List Rc) (v : Value) : Prop := (v = .int .i64 (-1) ∧ ∀ r ∈ l, r.g = false) ∨ ∃ i : Nat, v = .int .i64 i ∧ ∃ h : i < l.length, l[i].g = true ∧ ∀ r ∈ l.take i, r.g = false
set_option maxRecDepth 100000 in
set_option maxHeartbeats 1000000 in
theorem pindex_any {l : List Rc} {a : Option Addr} {cap n B : Nat} {w : World} (h : Rw w B (.slice a n cap) l) (hl : l.length ≤ 1000000) :
    Calls Try.prog 32 #[.slice a n cap, goneF] w fun e w' => ∃ v, e = .returned v ∧ At l v ∧ Old w w' := by
  have hnl : n = l.length := by
    rcases rw_cases h with ⟨h0, rfl⟩ | ⟨_, _, _, h0, _⟩
    · injection h0
    · injection h0
  have HR := Lib.hid h; have HN := Lib.hid hnl
  have hn1 : n ≤ 1000000 := by omega
  clear h hnl hl
  unfold goneF
  go_enter Try.func32, Try.ntmps32
  go_wp2_with fail
  go_loopg [8] n (fun g iv wr => ∃ i : Nat, i + g = n ∧ iv = .int .i64 i ∧ (∀ r ∈ l.take i, r.g = false) ∧ Old w wr)
  case atStart => exact ⟨0, by omega, rfl, fun r hr => by simp at hr, Old.refl w⟩
  case round =>
    obtain ⟨i, hi, rfl, hno, hold⟩ := hrel
    have HX := Lib.hid hno; have HO := Lib.hid hold
    clear hno hold
    by_cases hlt : i < n
    · have hil : i < l.length := by rw [← HN.out]; exact hlt
      obtain ⟨g, rfl, hBg, hgl, d0, d1, d2, d3, _⟩ := rw_at HR.out (List.getElem?_eq_getElem hil)
      have HTK : Hid (l.take (i + 1) = l.take i ++ [l[i]]) := Lib.hid (by rw [List.take_add_one, List.getElem?_eq_getElem hil, Option.toList_some])
      have HLI := Lib.hid (show ∃ h : i < l.length, l[i] = l[i] from ⟨hil, rfl⟩)
      have HGI : Hid (∀ x, l[i] = x → ∃ h : i < l.length, l[i] = x) := Lib.hid (fun x hx => ⟨hil, hx⟩)
      generalize hr : l[i] = r at *
      have HRR := Lib.hid (HGI.out r rfl)
      have hC : ∀ j v, w.cell? ⟨g, j, none⟩ = some v → wr.cell? ⟨g, j, none⟩ = some v := fun j v h => (Below.cell (p := ⟨g, j, none⟩) HO.out hgl).trans h
      have e0 := hC _ _ d0
      have e1 := hC _ _ d1
      have e2 := hC _ _ d2
      have e3 := hC _ _ d3
      clear d0 d1 d2 d3 hC hr HLI HGI hil
      have HG := Lib.hid (pgone_any r wr)
      unfold rv at HG
      have HO2 := Lib.hid (HO.out.alloc (.cells #[.int .u64 ((r.q : Nat) : Int), .string (bs r.k), .string (bs r.v), .bool r.g] 35))
      go_wp2_with fail
      refine HG.out.mono ?_
      rintro e w2 ⟨rfl, rfl⟩
      clear HG e0 e1 e2 e3
      generalize World.alloc wr _ = w3 at *
      cases hg : r.g with
      | true =>
        go_wp2_with fail
        go_ret
        obtain ⟨h1, h2⟩ := HRR.out
        exact ⟨_, rfl, Or.inr ⟨i, rfl, h1, by rw [h2]; exact hg, HX.out⟩, HO2.out⟩
      | false =>
        go_wp2_with fail
        go_roundg (gk - 1)
        case measure => omega
        case rel => exact ⟨i + 1, by omega, by go_num, fun x hx => by
          rw [HTK.out] at hx
          rcases List.mem_append.1 hx with hx | hx
          · exact HX.out x hx
          · simp only [List.mem_cons, List.not_mem_nil, or_false] at hx
            rw [hx]; exact hg, HO2.out⟩
    · have hT : l.take i = l := List.take_of_length_le (by rw [← HN.out]; omega)
      have HT := Lib.hid hT
      clear hT
      go_wp2_with fail
      go_ret
      exact ⟨_, rfl, Or.inl ⟨rfl, by rw [← HT.out]; exact HX.out⟩, HO.out⟩

theorem at_gone {l : List Rc} {i : Nat} (h : i < l.length) (hg : l[i].g = true) (hb : ∀ r ∈ l.take i, r.g = false) : l.take i = (l.take (i + 1)).filter (fun r => !r.g) := by
  rw [List.take_add_one, List.getElem?_eq_getElem h, Option.toList_some, List.filter_append, List.filter_eq_self.2 (fun r hr => by rw [hb r hr]; rfl)]
  simp [hg]
set_option maxRecDepth 100000 in
set_option maxHeartbeats 4000000 in
theorem pdelete_any {l : List Rc} {a : Option Addr} {cap n B : Nat} {w : World} (h : Rw w B (.slice a n cap) l) (hl : l.length ≤ 1000000) (hBw : B ≤ w.heap.size) :
    Calls Try.prog 24 #[.slice a n cap, goneF] w fun e w' => ∃ v, e = .returned v ∧ Rw w' B v (l.filter (fun r => !r.g)) ∧ Below B w w' := by
  have hnl : n = l.length := by
    rcases rw_cases h with ⟨h0, rfl⟩ | ⟨_, _, _, h0, _⟩
    · injection h0
    · injection h0
  have HI := Lib.hid (pindex_any h hl)
  unfold goneF at HI ⊢
  have HR := Lib.hid h; have HN := Lib.hid hnl
  have hn1 : n ≤ 1000000 := by omega
  clear h hnl hl
  go_enter Try.func24, Try.ntmps24
  go_wp2_with fail
  refine HI.out.mono ?_
  rintro e w2 ⟨v, rfl, hat, hold⟩
  rcases hat with ⟨rfl, hno⟩ | ⟨i, rfl, hil, hgi, hno⟩
  · have HX := Lib.hid (show l.filter (fun r => !r.g) = l from List.filter_eq_self.2 (fun r hr => by rw [hno r hr]; rfl))
    have HO := Lib.hid hold
    clear hno hold HI
    go_wp2_with fail
    go_ret
    exact ⟨_, rfl, by rw [HX.out]; exact HR.out.later HO.out, HO.out.mono hBw⟩
  · have HX := Lib.hid (at_gone hil hgi hno)
    obtain ⟨g, rfl, hBg, hgl, d0, d1, d2, d3, hfz⟩ := rw_at HR.out (List.getElem?_eq_getElem hil)
    have HO := Lib.hid hold
    have HLI := Lib.hid hil
    have hin : i < n := by rw [HN.out]; exact hil
    have hne : ((i : Int) == -1) = false := by rw [beq_eq_false_iff_ne]; omega
    clear hno hold HI d0 d1 d2 d3 hfz hgi hil
    go_wp2_with fail
    have hn0 := HN.out
    go_loopw [5, 6] (fun iv jv wr => ∃ (i j : Nat) (cur : List Rc), iv = .int .i64 i ∧ jv = .int .i64 j ∧ i < j ∧ j ≤ n ∧ cur.length = n ∧ cur.take i = (l.take j).filter (fun r => !r.g) ∧ cur.drop j = l.drop j ∧ Rw wr B (.slice (some ⟨g, 0, none⟩) n cap) cur ∧ Below B w wr)
      (fun _ jv _ => n - (intOf jv).toNat)
    case atStart => exact ⟨i, i + 1, l, rfl, by go_num, by omega, by omega, hn0.symm, HX.out, rfl, HR.out.later HO.out, HO.out.mono hBw⟩
    case round =>
      clear HX HO hin hn0
      obtain ⟨i, j, cur, rfl, rfl, hij, hjn, hcl, htk, hdr, hrw, hbw⟩ := hrel
      have HTK := Lib.hid htk; have HDR := Lib.hid hdr; have HRW := Lib.hid hrw; have HBW := Lib.hid hbw; have HCL := Lib.hid hcl
      by_cases hjl : j < n
      · have hjc : j < cur.length := by rw [hcl]; exact hjl
        have hjl2 : j < l.length := by rw [← HN.out]; exact hjl
        have hxx : cur[j] = l[j] := by
          have h1 : (cur.drop j)[0]? = (l.drop j)[0]? := by rw [hdr]
          rw [List.getElem?_drop, List.getElem?_drop, Nat.add_zero, List.getElem?_eq_getElem hjc, List.getElem?_eq_getElem hjl2] at h1
          exact Option.some.inj h1
        obtain ⟨g', hg', _, hgl', d0, d1, d2, d3, hfz⟩ := rw_at hrw (List.getElem?_eq_getElem hjc)
        cases hg'
        rw [hxx] at d0 d1 d2 d3
        have HL1 : Hid (l.take (j + 1) = l.take j ++ [l[j]]) := Lib.hid (by rw [List.take_add_one, List.getElem?_eq_getElem hjl2, Option.toList_some])
        have HD1 : Hid (cur.drop (j + 1) = l.drop (j + 1)) := Lib.hid (by
          have : (cur.drop j).drop 1 = (l.drop j).drop 1 := by rw [hdr]
          rwa [List.drop_drop, List.drop_drop] at this)
        generalize l[j] = r at *
        have hGG := pgone_any r
        unfold rv at hGG
        have hba := (Below.refl wr.heap.size wr).alloc (Nat.le_refl _) (.cells #[.int .u64 ((r.q : Nat) : Int), .string (bs r.k), .string (bs r.v), .bool r.g] 35)
        have hna := heap_alloc_new wr (.cells #[.int .u64 ((r.q : Nat) : Int), .string (bs r.k), .string (bs r.v), .bool r.g] 35)
        have hrs : B ≤ wr.heap.size := Nat.le_trans hBw hbw.size
        have HRS := Lib.hid hrs
        have HGG := Lib.hid hGG
        have HBA := Lib.hid hba; have HNA := Lib.hid hna
        clear hGG hba hna htk hdr hrw hbw hxx hjc hjl2 hcl hrs
        go_wp2_with fail
        generalize hW3 : wr.alloc _ = W3 at *
        obtain ⟨vb, hvb⟩ : ∃ vb, vb = wr.heap.size := ⟨_, rfl⟩
        rw [← hvb] at HNA ⊢
        refine (HGG.out W3).mono ?_
        rintro e W4 ⟨rfl, hw4⟩
        have hb4 := (Below.refl W3.heap.size W3).alloc (Nat.le_refl _) (.cells #[.int .u64 ((r.q : Nat) : Int), .string (bs r.k), .string (bs r.v), .bool r.g] 35)
        rw [← hw4] at hb4
        have hr4 : Rw W4 B (.slice (some ⟨g, 0, none⟩) n cap) cur := (HRW.out.later HBA.out).later hb4
        have hv3 : vb < W3.heap.size := (Array.getElem?_eq_some_iff.1 HNA.out).1
        have hn4 := (hb4.block vb hv3).trans HNA.out
        have hbw4 : Below B w W4 := ((HBW.out.trans (HBA.out.mono HRS.out))).trans (hb4.mono (Nat.le_trans HRS.out HBA.out.size))
        have f := fun t => cell_of_row W4 vb t _ _ (0, 0) hn4
        have f0 := f 0; have f1 := f 1; have f2 := f 2; have f3 := f 3
        simp only [List.getElem?_toArray, List.getElem?_cons_succ, List.getElem?_cons_zero] at f0 f1 f2 f3
        have HR4 := Lib.hid hr4; have HB4 := Lib.hid hbw4
        clear f hW3 hw4 hb4 hn4 hv3 hvb HNA HBA HGG d0 d1 d2 d3 hfz
        cases hg : r.g with
        | true =>
          clear hr4 hbw4
          have HF : Hid ((l.take (j + 1)).filter (fun r => !r.g) = (l.take j).filter (fun r => !r.g)) := Lib.hid (by rw [HL1.out, List.filter_append]; simp [hg])
          go_wp2_with fail
          go_roundw
          case rel => exact ⟨i, j + 1, cur, rfl, by go_num, by omega, by omega, HCL.out, HTK.out.trans HF.out.symm, HD1.out, HR4.out, HB4.out⟩
          case measure => simp [intOf]; omega
        | false =>
          have HF : Hid ((l.take (j + 1)).filter (fun r => !r.g) = (l.take j).filter (fun r => !r.g) ++ [r]) := Lib.hid (by rw [HL1.out, List.filter_append]; simp [hg])
          have hic : i < cur.length := by rw [HCL.out]; omega
          obtain ⟨hset, hz1⟩ := rw_set hr4 hic r
          obtain ⟨g', hg', hBg', hgl4, d0, d1, d2, d3, hfz⟩ := rw_at hr4 (List.getElem?_eq_getElem hic)
          cases hg'
          have HSET := Lib.hid hset
          have hb5 : Below B w (((((W4.setCell ⟨g, i * 4, none⟩ (.int .u64 ((r.q : Nat) : Int))).setCell ⟨g, i * 4 + 1, none⟩ (.string (bs r.k))).setCell ⟨g, i * 4 + 2, none⟩ (.string (bs r.v))).setCell ⟨g, i * 4 + 3, none⟩ (.bool r.g))) :=
            Below.setCell (p := ⟨g, i * 4 + 3, none⟩) (Below.setCell (p := ⟨g, i * 4 + 2, none⟩) (Below.setCell (p := ⟨g, i * 4 + 1, none⟩) (Below.setCell (p := ⟨g, i * 4, none⟩) hbw4 hBg _) hBg _) hBg _) hBg _
          have HB5 := Lib.hid hb5
          have hz0 := hfz (i * 4); have hz2 := hfz (i * 4 + 1); have hz3 := hfz (i * 4 + 2); have hz4 := hfz (i * 4 + 3)
          have HTS : Hid ((cur.set i r).take (i + 1) = cur.take i ++ [r]) := Lib.hid (by rw [List.take_add_one, List.getElem?_set_self hic, Option.toList_some, List.take_set_of_le (Nat.le_refl _)])
          have HDS : Hid ((cur.set i r).drop (j + 1) = cur.drop (j + 1)) := Lib.hid (by rw [List.drop_set, if_pos (by omega)])
          rw [hg] at f3 HSET HB5
          generalize cur[i] = y at d0 d1 d2 d3
          clear hset hb5 hr4 hbw4 hfz hBg' hic
          go_wp2_with fail
          go_roundw
          case rel => exact ⟨i + 1, j + 1, cur.set i r, by go_num, by go_num, by omega, by omega, by rw [List.length_set]; exact HCL.out, by rw [HTS.out, HTK.out, HF.out], by rw [HDS.out, HD1.out], HSET.out, HB5.out⟩
          case measure => simp [intOf]; omega
      · have hjn : j = n := by omega
        have HF : Hid ((l.take j).filter (fun r => !r.g) = l.filter (fun r => !r.g)) := Lib.hid (by rw [List.take_of_length_le (by rw [← HN.out]; omega)])
        have hic : i < cur.length := by rw [hcl]; omega
        obtain ⟨w5, hc5, hr5, hg5⟩ := clear_tail hrw hic
        rw [hcl] at hc5
        have hcap : n ≤ cap := by
          obtain ⟨x, y, e, h1, _⟩ := rw_form hrw
          injection e with e1 e2 e3
          omega
        have HR5 := Lib.hid hr5
        have HB5 := Lib.hid (Below.grown hbw hg5 (Nat.le_trans hBw hbw.size) (fun j hj => by cases hj; exact hBg))
        have HTK2 := Lib.hid (htk.trans HF.out)
        have hin2 : i < n := by omega
        clear htk hdr hrw hbw hcl hr5 hg5 hic HTK HDR HRW HBW HF
        have hdi : n - i ≠ 0 := by omega
        have hci : cap ≠ i := by omega
        go_wp2_with fail
        go_ret
        exact ⟨_, rfl, by rw [← HTK2.out]; exact HR5.out, HB5.out⟩
end Go.Proofs.Ytfcfleeiffmjdaa.G
