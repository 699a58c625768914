/- The program's directory: From, and the walk over what it hands back. -/
import Derived.Test.YtbjginlhgedjdaaDoorKpsorted
namespace Go.Proofs.YtbjginlhgedjdaaDoor.K
open Go.RowKit Go.Shelf
set_option linter.unusedVariables false
attribute [local go_sem] Oper.semAt_some

/-- The directory as it is asked of a program's. -/
def PdP (B : Nat) (w : World) (pb : Nat) (F : Nat → Prop) (S : Dr) : Prop := ∃ rb, Pk B w pb rb (cnt S) S ∧ ∀ k, F k ↔ (k = pb ∨ k = rb)

set_option maxRecDepth 100000 in
set_option maxHeartbeats 1000000 in
theorem pwalk_any {α : Type} (f : α → Ent Lc) (E : List α) {G : World → Nat → Prop} {V : World → Prop} (hS : Side G V) {B pb rb n : Nat} {S : Dr} {key : List UInt8} (Kp : World → World → Prop) (hKp : ∀ W W', Kp W W' → V W → V W' ∧ GTurn G W W')
    (bd bk : Nat) (l : Nat) (J Jx : List α → World → Prop) (W : World) (hJ : AbidesFrom W.heap.size J)
    (hY : ∀ pre x W1, J pre W1 → pre.length < E.length → YieldAt Fence.wide (9 - 1) Tryd.prog l (encE (f x)) W1 fun e W' =>
      (e = .returned (.bool true) ∧ J (pre ++ [x]) W' ∧ Kp W1 W') ∨ (e = .returned (.bool false) ∧ Jx (pre ++ [x]) W'))
    (h0 : J [] W) (hV : V W) (hD : Pk B W pb rb n S) (ho : One S) (hEf : E.map f = fromE S key) (hlen : E.length ≤ 1024)
    (hbd : W.cell? ⟨bd, 0, none⟩ = some (.pointer (some ⟨pb, 0, none⟩))) (hbk : W.cell? ⟨bk, 0, none⟩ = some (.string (bs key))) :
    CallsIn Fence.wide 9 Tryd.prog 36 (#[.func (.yield l) #[] #[]] ++ #[.pointer (some ⟨bd, 0, none⟩), .pointer (some ⟨bk, 0, none⟩)]) W fun e W' => (∃ v, e = .returned v) ∧ ((∃ xs, xs = E ∧ J xs W') ∨ (∃ pre, pre <+: E ∧ Jx pre W')) := by
  have HSO := Lib.hid (psorted_any (k := key) hD ho)
  clear hD ho
  refine callsIn_of_wp Tryd.func36 rfl trivial ?_ rfl
  simp only [Tryd.ntmps36, List.size_toArray, List.length_cons, List.length_nil, Nat.reduceAdd, Nat.reduceSub, Array.replicate_succ, Array.replicate_zero, List.push_toArray, List.append_toArray, List.nil_append, List.cons_append]
  gi_wp2
  refine ⟨trivial, (callsIn_wide).2 (HSO.out.mono ?_)⟩
  rintro e W1 ⟨kv, rfl, hks, b1⟩
  obtain ⟨ka, kc, rfl⟩ := rowForm hks
  have hvV := hS.later hV b1
  have hR1 : MineRow G W1 W.heap.size 61 6 (.slice ka (fromE S key).length kc) (fromE S key).length (prow (fromE S key)) := MineRow.new hS hV b1 hks
  have hJ1 : J [] W1 := hJ [] W W1 none h0 ⟨b1.os, b1.tape, b1.output, b1.size, fun k hk _ => b1.block k hk⟩ (fun r e => by cases e)
  have hz1 := b1.size
  obtain ⟨N, hN⟩ : ∃ N, N = E.length := ⟨_, rfl⟩
  have hfl : (fromE S key).length = N := by rw [← hEf, List.length_map, hN]
  rw [hfl, ← hEf] at hR1
  rw [hfl]
  rw [← hN] at hY hlen
  have HN := Lib.hid hN
  clear hN hks h0 hEf hfl hbd hbk hV b1 HSO
  gi_wp2
  gi_loopw [10] (fun i wr => ∃ q : Nat, q ≤ N ∧ i = .int .i64 q ∧ W.heap.size ≤ wr.heap.size ∧ V wr ∧ MineRow G wr W.heap.size 61 6 (.slice ka N kc) N (prow (E.map f)) ∧ J (E.take q) wr)
    (fun i _ => N - (intOf i).toNat)
  case atStart => exact ⟨0, Nat.zero_le _, rfl, hz1, hvV, hR1, by simpa using hJ1⟩
  case round =>
    clear hvV hR1 hJ1 hz1
    obtain ⟨q, hq, rfl, hz, hVr, hRr, hJr⟩ := hrel
    by_cases hlt : q < N
    · obtain ⟨x, hx⟩ : ∃ x, E[q]? = some x := ⟨E[q]'(by have := HN.out; omega), List.getElem?_eq_getElem _⟩
      obtain ⟨g, rfl, _, hgl, hcl⟩ := row_at hRr.1 (by omega)
      have hc : ∀ j, j < 6 → wr.cell? ⟨g, q * 6 + j, none⟩ = (slotv (some (f x)))[j]? := fun j hj => by rw [hcl _ (by omega), prow_at (show (E.map f)[q]? = some (f x) by rw [List.getElem?_map, hx]; rfl) hj]
      have d0 := hc 0 (by omega); have d1 := hc 1 (by omega); have d2 := hc 2 (by omega); have d3 := hc 3 (by omega); have d4 := hc 4 (by omega); have d5 := hc 5 (by omega)
      rw [Nat.add_zero] at d0
      simp only [slotv, List.getElem?_cons_succ, List.getElem?_cons_zero] at d0 d1 d2 d3 d4 d5
      have htk : E.take (q + 1) = E.take q ++ [x] := by rw [List.take_add_one, hx]; rfl
      have hpl : (E.take q).length < N := by rw [List.length_take]; omega
      have hpre : E.take q ++ [x] <+: E := by rw [← htk]; exact List.take_prefix _ _
      have HTK := Lib.hid htk; have HPR := Lib.hid hpre
      clear hc hcl hx htk hpre
      have hba : Below wr.heap.size wr (wr.alloc (.cells #[.string (bs (f x).1), .int .i64 (f x).2.seg, .int .i64 (f x).2.off, .int .i64 (f x).2.len, .int .u64 (f x).2.seq, .bool true] 61)) := (Below.refl _ _).alloc (Nat.le_refl _) _
      have hJa := hJ _ wr _ none hJr ⟨hba.os, hba.tape, hba.output, hba.size, fun k hk _ => hba.block k hk⟩ (fun r e => by cases e)
      have hVa := hS.later hVr hba
      have hRa := hRr.old hS hVr hba
      have hza := Nat.le_trans hz hba.size
      have HB := Lib.hid hba
      clear hba
      obtain ⟨fn, tmps, assign, body, hy, hR⟩ := hY (E.take q) x _ hJa hpl
      simp only [encE, locV] at hy
      gi_wp2
      refine hR.mono ?_
      rintro e W2 (⟨rfl, hJ2, hk2⟩ | ⟨rfl, hJx2⟩)
      · obtain ⟨hV2, hG2⟩ := hKp _ _ hk2 hVa
        have hR2 := hRa.round hG2
        have hz2 := Nat.le_trans hza hG2.size
        clear hy hR hk2 hG2 hVa hRa hJa hRr hJr hVr
        gi_wp2
        go_roundw
        case rel => exact ⟨q + 1, by omega, by go_num, hz2, hV2, hR2, by rw [HTK.out]; exact hJ2⟩
        case measure => simp [intOf]; omega
      · clear hy hR hVa hRa hJa hRr hJr hVr
        gi_wp2
        refine bodyPost_ret (results_none rfl _ _ _) rfl ?_
        exact ⟨⟨_, rfl⟩, .inr ⟨_, HPR.out, hJx2⟩⟩
    · obtain rfl : q = N := by omega
      have hal : E.take q = E := List.take_of_length_le (by rw [← HN.out]; exact Nat.le_refl _)
      rw [hal] at hJr
      clear hRr
      gi_wp2
      go_end0
      exact ⟨⟨_, rfl⟩, .inl ⟨E, rfl, hJr⟩⟩

set_option maxRecDepth 100000 in
set_option maxHeartbeats 1000000 in
/-- From: in whatever world the walk over it begins. -/
theorem pfrom_on {α : Type} (f : α → Ent Lc) (E : List α) {G : World → Nat → Prop} {V : World → Prop} (hS : Side G V) {B pb rb n : Nat} {S : Dr} {w : World} {k : List UInt8} (h : Pk B w pb rb n S) (ho : One S) (hEf : E.map f = fromE S k) (hV : V w) :
    Calls Tryd.prog 32 #[.pointer (some ⟨pb, 0, none⟩), .string (bs k)] w fun e w' => ∃ lb, e = .returned (.func (.func 36) #[] lb) ∧ Below w.heap.size w w' ∧
      ∀ (Kp : World → World → Prop), (∀ W W', Kp W W' → V W → V W' ∧ GTurn G W W') →
        SeqStopsK Fence.wide 9 Tryd.prog 36 lb (fun x => encE (f x)) Kp (fun xs => xs = E) (fun pre => pre <+: E) E.length w' := by
  have hlen : E.length ≤ 1024 := by
    have h0 : E.length = (fromE S k).length := by rw [← hEf, List.length_map]
    have h1 : (fromE S k).length ≤ (sre S).length := List.length_filter_le _ _
    rw [sre_len] at h1; have := cnt_le S; have := h.few; omega
  have b1 : Below w.heap.size w ((w.alloc (.cells #[.pointer (some ⟨pb, 0, none⟩)] 25)).alloc (.cells #[.string (bs k)] 9)) := ((Below.refl _ _).alloc (Nat.le_refl _) _).alloc (by simp) _
  have n1 := heap_alloc2_old w (.cells #[.pointer (some ⟨pb, 0, none⟩)] 25) (.cells #[.string (bs k)] 9)
  have n2 := heap_alloc2_new w (.cells #[.pointer (some ⟨pb, 0, none⟩)] 25) (.cells #[.string (bs k)] 9)
  have H := Lib.hid h; have HO := Lib.hid ho; have HV := Lib.hid hV; have HB := Lib.hid b1; have HN1 := Lib.hid n1; have HN2 := Lib.hid n2
  clear h ho hV b1 n1 n2
  go_enter Tryd.func32, Tryd.ntmps32
  go_wp2_with fail
  go_ret
  refine ⟨_, rfl, HB.out, fun Kp hKp l J Jx W hW hJ hJx hY h0 => ?_⟩
  have hz := hW.size
  have hVW := (hS.later (hS.later HV.out HB.out) hW)
  have hPW := (H.out.below HB.out).below hW
  have l1 := (Array.getElem?_eq_some_iff.1 HN1.out).1
  have l2 := (Array.getElem?_eq_some_iff.1 HN2.out).1
  have c1 : W.cell? ⟨w.heap.size, 0, none⟩ = some (.pointer (some ⟨pb, 0, none⟩)) := by
    rw [cell_of_row W w.heap.size 0 _ _ (0, 0) (by rw [hW.block _ l1]; exact HN1.out)]; rfl
  have c2 : W.cell? ⟨w.heap.size + 1, 0, none⟩ = some (.string (bs k)) := by
    rw [cell_of_row W (w.heap.size + 1) 0 _ _ (0, 0) (by rw [hW.block _ l2]; exact HN2.out)]; rfl
  exact pwalk_any f E hS Kp hKp _ _ l J Jx W hJ hY h0 hVW hPW HO.out hEf hlen c1 c2
theorem pfrom_any {G : World → Nat → Prop} {V : World → Prop} (hS : Side G V) {B pb rb n : Nat} {S : Dr} {w : World} {k : List UInt8} (h : Pk B w pb rb n S) (ho : One S) (hV : V w) :
    Calls Tryd.prog 32 #[.pointer (some ⟨pb, 0, none⟩), .string (bs k)] w fun e w' => ∃ lb, e = .returned (.func (.func 36) #[] lb) ∧ Below w.heap.size w w' ∧
      ∀ (Kp : World → World → Prop), (∀ W W', Kp W W' → V W → V W' ∧ GTurn G W W') →
        SeqStopsK Fence.wide 9 Tryd.prog 36 lb encE Kp (fun xs => xs = fromE S k) (fun pre => pre <+: fromE S k) (fromE S k).length w' :=
  pfrom_on (fun x => x) (fromE S k) hS h ho (List.map_id' _) hV
end Go.Proofs.YtbjginlhgedjdaaDoor.K
