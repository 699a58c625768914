/- What the document's own All and List of layer 3 return. -/
import Derived.Test.YtdifecclldkhpaaRsame
import Derived.Test.YtdifecclldkhpaaRrefread
namespace Go.Proofs.Ytdifecclldkhpaa
open Go.RowKit

theorem one_yes {r : Rc} (h : right r = true) : allV [r] = .tuple #[.string (bs (enc r)), .int .i64 0] := by
  rw [allV_yes (by simp [rights, h]), encs_cons, encs_nil, List.append_nil]
theorem one_no {r : Rc} (h : right r = false) : allV [r] = .tuple #[.string ⟨#[]⟩, .int .i64 1] := allV_no (by simp [rights, h])

set_option maxRecDepth 100000 in
set_option maxHeartbeats 400000 in
theorem refall_any (l : List Rc) (a : Option Addr) (cap : Nat) (w : World) (hl : l.length ≤ 1000) (hr : Recs w a l) (hf : Fits l) :
    Calls Try.prog 44 #[.slice a l.length cap] w fun e w' => e = .returned (allV l) ∧ Below w.heap.size w w' := by
  have HR := Lib.hid hr
  have HF := Lib.hid hf
  clear hr hf
  go_enter Try.func44, Try.ntmps44
  go_wp2_with fail
  go_loopw [4, 5] (fun s i wr => ∃ k : Nat, k ≤ l.length ∧ i = .int .i64 k ∧ s = .string (bs (encs (l.take k))) ∧ rights (l.take k) = true ∧ Below w.heap.size w wr) (fun _ i _ => l.length - (intOf i).toNat)
  case atStart => exact ⟨0, by omega, rfl, rfl, rfl, Below.refl _ _⟩
  case round =>
    obtain ⟨k, hk, rfl, rfl, hg, hb⟩ := hrel
    have hel := encs_len _ hg
    have htl : (l.take k).length ≤ k := List.length_take_le _ _
    have hacc : (encs (l.take k)).length ≤ 370000 := by omega
    clear hel htl
    by_cases hlt : k < l.length
    · obtain ⟨b, off, rfl, hbl, c0, c1, c2, c3⟩ := cells_of HR.out k hlt
      obtain ⟨f0, f1, f2⟩ := HF.out l[k] (List.getElem_mem hlt)
      rw [← hb.cell (p := ⟨b, _, none⟩) hbl] at c0 c1 c2 c3
      have h1 := fun W => refbytes_any l[k] W f0 f1 f2
      simp only [rv] at h1
      have HT := Lib.hid (take_next l k hlt)
      have HG := Lib.hid (rights_next hlt hg)
      have HN := Lib.hid (rights_not (l := l) hlt)
      clear f0 f1 f2 hg
      have hbz := hb.size
      generalize l[k] = r at *
      have hen : right r = true → (enc r).length ≤ 370 := fun h => (enc_len h).2
      have zz : (bs (encs (l.take k))).size ≤ 370000 := by rw [bs_size]; exact hacc
      cases hg : right r with
      | false =>
        rw [one_no hg] at h1
        have H1 := Lib.hid h1
        have HE := Lib.hid (allV_no (HN.out hg))
        clear h1 hen hg
        generalize ((r.q : Nat) : Int) = Q at *
        generalize bs r.k = K at *
        generalize bs r.v = V at *
        generalize r.g = G at *
        generalize bs (encs (l.take k)) = X at *
        go_wp2_with fail
        (with_reducible refine (H1.out _).mono ?_)
        rintro e w1 ⟨rfl, b1⟩
        go_wp2_with fail
        go_ret2
        exact ⟨HE.out.symm ▸ rfl, hb.trans (b1.mono hbz)⟩
      | true =>
        rw [one_yes hg] at h1
        have zr : (bs (enc r)).size ≤ 370 := by rw [bs_size]; exact hen hg
        have HS := Lib.hid (HG.out hg)
        have H1 := Lib.hid h1
        have HA : Hid (bs (encs (l.take (k + 1))) = bs (encs (l.take k)) ++ bs (enc r)) := Lib.hid (by rw [HT.out, encs_snoc, bs_app])
        clear h1 hen hg
        generalize ((r.q : Nat) : Int) = Q at *
        generalize bs r.k = K at *
        generalize bs r.v = V at *
        generalize r.g = G at *
        generalize bs (enc r) = Y at *
        generalize hX : bs (encs (l.take k)) = X at *
        have c1 : ¬ 9223372036854775807 < X.size + Y.size := by omega
        clear hX
        go_wp2_with fail
        (with_reducible refine (H1.out _).mono ?_)
        rintro e w1 ⟨rfl, b1⟩
        go_wp2_with fail
        go_roundw
        case rel => exact ⟨k + 1, by omega, by go_num, by rw [HA.out], HS.out, hb.trans (b1.mono hbz)⟩
        case measure => simp [intOf]; omega
    · have e : k = l.length := by omega
      subst e
      rw [List.take_length] at hg hacc ⊢
      have HE := Lib.hid (allV_yes hg)
      clear hg
      go_wp2_with fail
      go_ret2
      exact ⟨HE.out.symm ▸ rfl, hb⟩

theorem refread_of (x : List UInt8) (hx : x.length ≤ 9223372036854775807) (r : Rc) (s : List UInt8) (e : Nat) (h : rd x = (r, s, e)) (w : World) :
    Calls Try.prog 47 #[.string (bs x)] w fun y w' => y = .returned (.tuple #[.agg #[.int .u64 ((r.q : Nat) : Int), .string (bs r.k), .string (bs r.v), .bool r.g], .string (bs s), .int .i64 (e : Nat)]) ∧ Below w.heap.size w w' := by
  have := refread_any (bs x) w (by rw [bs_size]; exact hx)
  rw [bs_list, rdV, h] at this
  exact this

set_option maxRecDepth 100000 in
set_option maxHeartbeats 1000000 in
theorem reflist_any (b : List UInt8) (w : World) (hb : b.length ≤ 1000000) :
    Calls Try.prog 71 #[.string (bs b)] w (LsPost w (rds b)) := by
  obtain ⟨i0, hi, hz0, hz1, hz2⟩ := info_parts infoRec
  have HI := Lib.hid (And.intro hi (And.intro hz0 (And.intro hz1 hz2)))
  clear hi hz0 hz1 hz2
  obtain ⟨X, hX⟩ : ∃ X, X = bs b := ⟨_, rfl⟩
  rw [← hX]
  have HX := Lib.hid hX
  clear hX
  go_enter Try.func71, Try.ntmps71
  go_wp2_with fail
  go_loopw [0, 4] (fun s v wr => ∃ (x : List UInt8) (acc : List Rc) (n : Nat), s = .string (bs x) ∧ x.length < n ∧ acc.length + x.length ≤ b.length ∧ rdsF n x acc = rds b ∧ wr.ownsRow w.heap.size 45 4 v acc.length (flat acc) ∧ Below w.heap.size w wr) (fun s _ _ => strLen s)
  case atStart => exact ⟨b, [], b.length + 1, by rw [HX.out], by omega, by simp, rfl, World.ownsRow_nil _ _ _ _, Below.refl _ _⟩
  case round =>
    obtain ⟨x, acc, n, rfl, hn, hl, hr, hown, hbw⟩ := hrel
    obtain ⟨m, rfl⟩ : ∃ m, n = m + 1 := ⟨n - 1, by omega⟩
    have HR := Lib.hid hr
    have HO := Lib.hid hown
    clear hr hown
    by_cases hx : x = []
    · subst hx
      have HE : Hid (rds b = (acc, 0)) := Lib.hid (by rw [← HR.out, rdsF_nil])
      rw [show bs ([] : List UInt8) = ⟨#[]⟩ from rfl]
      obtain ⟨a, cap, rfl, hrec⟩ := owns_recs HO.out
      have HC := Lib.hid hrec
      clear hrec
      go_wp2_with fail
      go_ret2
      exact ⟨a, cap, by rw [HE.out]; rfl, by rw [HE.out]; exact HC.out, hbw⟩
    · have hpos : 0 < (bs x).size := by rw [bs_size]; exact List.length_pos_iff.2 hx
      have hsz : (bs x).size ≤ 9223372036854775807 := by rw [bs_size]; omega
      obtain ⟨r, s, e, hrd⟩ : ∃ r s e, rd x = (r, s, e) := ⟨_, _, _, rfl⟩
      have H1 := Lib.hid (refread_of x (by omega) r s e hrd)
      by_cases he : e = 0
      · subst he
        have hlt : s.length < x.length ∧ 0 < x.length := by
          obtain ⟨hg, hxe⟩ := rd_ok hrd
          have := enc_len hg
          rw [hxe, List.length_append]
          omega
        have HN : Hid (rdsF m s (acc ++ [r]) = rds b) := Lib.hid (by rw [← HR.out, rdsF_next hx hrd])
        have HL : Hid (strLen (.string (bs s)) < strLen (.string (bs x))) := Lib.hid (by show (bs s).size < (bs x).size; rw [bs_size, bs_size]; omega)
        clear hrd hx
        have HSn := Lib.hid (flat_snoc acc r)
        generalize ((r.q : Nat) : Int) = Q at *
        generalize bs r.k = K at *
        generalize bs r.v = V at *
        generalize r.g = G at *
        generalize bs x = X1 at *
        generalize hSS : bs s = S1 at *
        have HSS := Lib.hid hSS
        clear hSS
        go_wp2_with fail
        (with_reducible refine (H1.out _).mono ?_)
        rintro e w1 ⟨rfl, b1⟩
        have hbz := hbw.size
        have hb1z := b1.size
        have O1 := Lib.hid ((owns_later HO.out b1).alloc (.cells #[.int .u64 Q, .string K, .string V, .bool G] 45))
        have B1 : Hid (Below w.heap.size w (w1.alloc (.cells #[.int .u64 Q, .string K, .string V, .bool G] 45))) := Lib.hid ((hbw.trans (b1.mono hbz)).alloc (by omega) _)
        clear b1 HO hbw
        go_wp2_with (at_builtin; refine wpList_append_own _ rfl _ _ 53 rfl w.heap.size 45 i0 (.agg #[.int .u64 0, .string ⟨#[]⟩, .string ⟨#[]⟩, .bool false]) 4 48 Try.underlying53 HI.out.1 HI.out.2.1 HI.out.2.2.1 HI.out.2.2.2 rfl (by decide) _ _ _ rfl (O1.out.alloc _) ⟨w1.heap.size + 1, 0, none⟩ 1 1 [.int .u64 Q, .string K, .string V, .bool G] rfl rfl ?c1 (fun x hx => by simp at hx; rcases hx with rfl | rfl | rfl | rfl <;> rfl) (by unfold maxLen; omega) (by omega) (by simp; omega) ?_)
        case c1 =>
          have := cell_four_new (w1.alloc (.cells #[.int .u64 Q, .string K, .string V, .bool G] 45)) (.int .u64 Q) (.string K) (.string V) (.bool G) 45
          rwa [World.size_alloc] at this
        intro v' w3 hown' hgrow _
        have B3 : Hid (Below w.heap.size w w3) := Lib.hid (Below.grown (B1.out.alloc (by simp; omega) _) hgrow (by simp; omega) (fun j hj => (O1.out.lt _ hj).1))
        have O3 := Lib.hid hown'
        clear hown' hgrow
        go_wp2_with fail
        go_roundw
        case rel => exact ⟨s, acc ++ [r], m, by rw [HSS.out], by omega, by simp; omega, HN.out, by rw [HSn.out, List.length_append]; exact O3.out, B3.out⟩
        case measure => exact HL.out
      · have HE : Hid (rds b = ([], e)) := Lib.hid (by rw [← HR.out, rdsF_err hx hrd he])
        have hb0 : ((e : Int) != 0) = true := by rw [bne_iff_ne]; omega
        clear hrd hx
        generalize ((r.q : Nat) : Int) = Q at *
        generalize bs r.k = K at *
        generalize bs r.v = V at *
        generalize r.g = G at *
        generalize bs x = X1 at *
        generalize bs s = S1 at *
        go_wp2_with fail
        (with_reducible refine (H1.out _).mono ?_)
        rintro e w1 ⟨rfl, b1⟩
        go_wp2_with fail
        go_ret2
        exact ⟨none, 0, by rw [HE.out]; rfl, by rw [HE.out]; exact ⟨fun h => by simp at h, Tag.none _⟩, ((hbw.trans (b1.mono hbw.size)).alloc (Nat.le_trans hbw.size b1.size) _)⟩

end Go.Proofs.Ytdifecclldkhpaa
