/- What the document's own Of of layer 5 returns. -/
import Derived.Test.YtdifecclldkhpaaHof
import Derived.Test.YtdifecclldkhpaaHto
namespace Go.Proofs.Ytdifecclldkhpaa
open Go.RowKit

set_option maxRecDepth 100000 in
set_option maxHeartbeats 4000000 in
theorem refhof_any (b : List UInt8) (w : World) (hb : b.length ≤ 1000000) :
    Calls Try.prog 16 #[.string (bs b)] w (HoPost w (hof 0 (fs b).1, (fs b).2)) := by
  obtain ⟨i0, hi, hz0, hz1, hz2⟩ := info_parts infoRefEnt
  have HI := Lib.hid (And.intro hi (And.intro hz0 (And.intro hz1 hz2)))
  clear hi hz0 hz1 hz2
  obtain ⟨ll, n, hfs⟩ : ∃ ll n, fs b = (ll, n) := ⟨_, _, rfl⟩
  obtain ⟨hgood, hn, hcat⟩ := fs_ok hfs
  have H1 := fun W => reffscan_any b W hb
  rw [hfs] at H1 ⊢
  have H1 := Lib.hid H1
  have HG := Lib.hid hgood
  have hbig := cat_big ll hgood
  have hlen : (cat ll).length ≤ b.length := by have := congrArg List.length hcat; rw [List.length_append] at this; omega
  have hlen2 : (cat ll).length ≤ 1000000 := by omega
  have HCL := Lib.hid hlen2
  clear hfs hgood hcat hlen hlen2
  generalize bs b = B at *
  obtain ⟨N, hN⟩ : ∃ N, N = ll.length := ⟨_, rfl⟩
  have HN := Lib.hid hN
  have hNb : 8 * N ≤ 1000000 := by have := HCL.out; omega
  clear hbig
  go_enter Try.func16, Try.ntmps16
  go_wp2_with fail
  (with_reducible refine (H1.out _).mono ?_)
  rintro e w1 ⟨a1, cap1, rfl, r1, b1⟩
  have R1 := Lib.hid r1
  have B1 := Lib.hid b1
  clear r1 b1 H1
  rw [← hN]
  clear hN
  go_wp2_with fail
  go_loopw [4, 7, 8] (fun v p i wr => ∃ (u : Value) (j : Nat), u = v ∧ i = .int .i64 j ∧ j ≤ N ∧ p = .int .i64 ((cat (ll.take j)).length : Int) ∧ wr.ownsRow w1.heap.size 49 5 u (hof 0 (ll.take j)).length (eflat (hof 0 (ll.take j))) ∧ Below w1.heap.size w1 wr ∧ Below w.heap.size w wr) (fun _ _ i _ => N - (intOf i).toNat)
  case atStart => exact ⟨_, 0, rfl, rfl, by omega, rfl, World.ownsRow_nil _ _ _ _, Below.refl _ _, B1.out⟩
  case round =>
    obtain ⟨u, j, rfl, rfl, hj, rfl, hown, hb1, hbw⟩ := hrel
    have HO := Lib.hid hown
    clear hown
    by_cases hlt : j < N
    · obtain ⟨g1, off1, ab, capb, rfl, hbl1, c1, rr⟩ := bat_of R1.out j (by rw [← HN.out]; exact hlt)
      have hlt' : j < ll.length := by rw [← HN.out]; exact hlt
      have hgl := HG.out _ (List.getElem_mem hlt')
      have hgj : ∀ l ∈ ll.take j, good l = true := fun l hl => HG.out l (List.mem_of_mem_take hl)
      have hsp := cat_split ll hlt'
      have hnx := hof_next 0 ll hlt'
      have hcn : (cat (ll.take (j + 1))).length = (cat (ll.take j)).length + (fbs (ll[j]'hlt')).length := by rw [List.take_succ_eq_append_getElem hlt', cat_snoc, List.length_append]
      have hsm := hof_small (ll.take j) 0 hgj
      have htl : (ll.take j).length ≤ j := List.length_take_le _ _
      have HC1 := Lib.hid c1
      rw [← hb1.cell (p := ⟨g1, _, none⟩) hbl1] at c1
      generalize hll : ll[j]'hlt' = l at *
      obtain ⟨hg16, hrl⟩ := (good_iff l).1 hgl
      have hhd := head_le l
      have hp : (cat (ll.take j)).length + (fbs l).length ≤ 1000000 := by
        have := congrArg List.length hsp
        rw [List.length_append, List.length_append] at this
        have := HCL.out
        omega
      have h2 := fun W (hW : Below w1.heap.size w1 W) => reffbytes_any l ab capb W (by omega) (rr.later hW (Nat.le_refl _)) (good_fits hrl)
      rw [fbV_yes hgl] at h2
      have h3 := fun W (hW : Below w1.heap.size w1 W) => refall_any l ab capb W (by omega) (rr.later hW (Nat.le_refl _)) (good_fits hrl)
      rw [allV_yes hrl] at h3
      have zY := bs_size (fbs l)
      have zX := bs_size (encs l)
      have HRR := Lib.hid rr
      have H2 := Lib.hid h2
      have H3 := Lib.hid h3
      have HNX := Lib.hid hnx
      have HCN := Lib.hid hcn
      have HRL := Lib.hid hrl
      have hp1 : (cat (ll.take j)).length ≤ 1000000 := by omega
      rw [← zY] at hp hhd
      rw [← zX] at hhd
      clear h2 h3 rr hgj hsp hgl hnx hcn hrl hll
      obtain ⟨nl, hnl⟩ : ∃ nl, nl = l.length := ⟨_, rfl⟩
      have HNL := Lib.hid hnl
      rw [← hnl] at c1 hg16
      rw [← HNL.out] at H2 H3 HC1
      obtain ⟨P, hP⟩ : ∃ P, P = (cat (ll.take j)).length := ⟨_, rfl⟩
      have HP := Lib.hid hP
      rw [← hP] at hp hp1 HNX HCN ⊢
      clear hP hnl
      have HXX := Lib.hid zX
      have HYY := Lib.hid zY
      clear zX zY
      obtain ⟨hg1, hg2⟩ := hg16
      generalize bs (encs l) = X at *
      generalize bs (fbs l) = Y at *
      have Q1 : Hid (Y.size = head l + X.size) := Lib.hid hhd
      have q3 : X.size ≤ Y.size := by omega
      clear hhd
      have hlti : (j : Int) < (N : Int) := by omega
      go_wp2_with fail
      (with_reducible refine (H2.out _ hb1).mono ?_)
      rintro e w2 ⟨rfl, b2⟩
      have B2 := Lib.hid (hb1.trans (b2.mono hb1.size))
      have c2 := HC1.out
      rw [← B2.out.cell (p := ⟨g1, _, none⟩) hbl1] at c2
      go_wp2_with fail
      (with_reducible refine (H3.out _ B2.out).mono ?_)
      rintro e w3 ⟨rfl, b3⟩
      have b23 := b2.trans (b3.mono b2.size)
      have B3 := Lib.hid (hb1.trans (b23.mono hb1.size))
      have W3 := Lib.hid (hbw.trans (b23.mono hbw.size))
      have O3 := Lib.hid (owns_later HO.out b23)
      clear b2 b3 b23 B2 hb1 hbw HO H2 H3 c1 c2
      go_wp2_with fail
      go_loopw [4, 13, 14] (fun v p i wr => ∃ (u : Value) (k o : Nat), u = v ∧ i = .int .i64 k ∧ k ≤ nl ∧ p = .int .i64 (o : Int) ∧ o = P + head l + (encs (l.take k)).length ∧ wr.ownsRow w1.heap.size 49 5 u (hof 0 (ll.take j) ++ rows (P + head l) (l.take k)).length (eflat (hof 0 (ll.take j) ++ rows (P + head l) (l.take k))) ∧ Below w1.heap.size w1 wr ∧ Below w.heap.size w wr) (fun _ _ i _ => nl - (intOf i).toNat)
      case atStart => exact ⟨_, 0, P + head l, rfl, rfl, by omega, by congr 1; have := Q1.out; omega, by simp [encs], by simpa [rows] using O3.out, B3.out, W3.out⟩
      case round =>
        obtain ⟨u, k, o, rfl, rfl, hk, rfl, ho, hown, hb1, hbw⟩ := hrel
        have HOO := Lib.hid ho
        clear ho O3 B3 W3
        have c5 := HC1.out
        rw [← hb1.cell (p := ⟨g1, _, none⟩) hbl1] at c5
        by_cases hkl : k < nl
        · have hkl' : k < l.length := by rw [← HNL.out]; exact hkl
          obtain ⟨g2, off2, rfl, hbl2, c0, c1, c2, c3⟩ := cells_of HRR.out k hkl'
          rw [← hb1.cell (p := ⟨g2, _, none⟩) hbl2] at c0 c1 c2 c3
          have hri : right l[k] = true := by
            have := HRL.out
            rw [rights, List.all_eq_true] at this
            exact this _ (List.getElem_mem hkl')
          obtain ⟨y1, y2, y3, y4, y5, y6⟩ := (right_iff _).1 hri
          have h4 := fun W => refbytes_any l[k] W (by omega) (by omega) (by omega)
          rw [one_yes hri] at h4
          simp only [rv] at h4
          have hel := enc_len hri
          have HTK := Lib.hid (take_next l k hkl')
          have hcut : (encs (l.take (k + 1))).length ≤ (encs l).length := by
            have := congrArg (fun t => (encs t).length) (List.take_append_drop (k + 1) l)
            simp only [encs, List.flatMap_append, List.length_append] at this
            show (List.flatMap enc (List.take (k + 1) l)).length ≤ (List.flatMap enc l).length
            omega
          have HRN := Lib.hid (rows_next (P + head l) l hkl')
          have hsm2 : (hof 0 (ll.take j) ++ rows (P + head l) (l.take k)).length ≤ 16 * j + 16 := by
            rw [List.length_append, rows_len]
            have := List.length_take_le k l
            omega
          clear y1 y2 y3 y4 y5 y6 hri
          generalize l[k] = r at *
          rw [HTK.out, encs_snoc, List.length_append] at hcut
          have HEN : Hid ((encs (l.take (k + 1))).length = (encs (l.take k)).length + (enc r).length) := Lib.hid (by rw [HTK.out, encs_snoc, List.length_append])
          have ho2 : o + (enc r).length ≤ 1000000 := by
            have := HOO.out
            have := Q1.out
            have := HXX.out
            omega
          have HFL := Lib.hid (ent_flat (hof 0 (ll.take j) ++ rows (P + head l) (l.take k)) o r)
          have hes := bs_size (enc r)
          rw [← hes] at ho2 hel
          have HES := Lib.hid hes
          rw [← hes] at HFL
          obtain ⟨m, hm⟩ : ∃ m, m = (hof 0 (ll.take j) ++ rows (P + head l) (l.take k)).length := ⟨_, rfl⟩
          rw [← hm] at hown hsm2
          have HM := Lib.hid hm
          have HO := Lib.hid hown
          clear hm hown
          have hlk : (k : Int) < (nl : Int) := by omega
          have hbz := hbw.size
          have H4 := Lib.hid h4
          clear hes h4 hcut
          generalize bs (enc r) = E at *
          generalize bs r.k = K at *
          generalize bs r.v = V at *
          generalize ((r.q : Nat) : Int) = Q at *
          generalize r.g = G at *
          go_wp2_with fail
          (with_reducible refine (H4.out _).mono ?_)
          rintro e w4 ⟨rfl, b4⟩
          have B4 := Lib.hid (hb1.trans (b4.mono hb1.size))
          have W4 := Lib.hid (hbw.trans (b4.mono hbz))
          have O4 := Lib.hid (owns_later HO.out b4)
          have hz1 := hb1.size
          rw [← b4.cell (p := ⟨g2, _, none⟩) (by show g2 < wr.heap.size; omega)] at c0 c1 c2 c3
          rw [← b4.cell (p := ⟨g1, _, none⟩) (by show g1 < wr.heap.size; omega)] at c5
          have hz4 := B4.out.size
          have av1 : u.ownBlock ≠ some g1 := fun q => by have := (O4.out.lt _ q).1; omega
          have av2 : u.ownBlock ≠ some g2 := fun q => by have := (O4.out.lt _ q).1; omega
          have lt1 : g1 < w4.heap.size := by omega
          have lt2 : g2 < w4.heap.size := by omega
          clear b4 H4 HO hb1 hbw c2
          go_wp2_with fail
          go_region_held3 (fun w' => w'.cell? ⟨g1, off1 + j, none⟩ = some (.slice (some ⟨g2, off2, none⟩) nl capb) ∧ w'.cell? ⟨g2, off2 + k * 4, none⟩ = some (.int .u64 Q) ∧ w'.cell? ⟨g2, off2 + k * 4 + 1, none⟩ = some (.string K) ∧ w'.cell? ⟨g2, off2 + k * 4 + 3, none⟩ = some (.bool G))
            (first
              | go_keep
              | (go_split_ands
                 refine ⟨?_, ?_, ?_, ?_⟩
                 · (rw [hgrow.cell_far _ (by simp; omega) (Ne.symm av1)]; assumption)
                 all_goals (rw [hgrow.cell_far _ (by simp; omega) (Ne.symm av2)]; assumption)))
            ((refine step_append_lies _ (by rfl) _ _ _ (by rfl) w1.heap.size 49 i0 _ 5 48 Try.underlying29 HI.out.1 HI.out.2.1 HI.out.2.2.1 HI.out.2.2.2 rfl (by omega) u _ _ (by rfl) ((O4.out.alloc _).drew)
                ⟨w4.heap.size, 0, none⟩ 1 1 [.string K, .int .i64 (o : Int), .int .i64 (E.size : Int), .int .u64 Q, .bool G] (by rfl) (by rfl) (World.news_of_block (cs := #[.string K, .int .i64 (o : Int), .int .i64 (E.size : Int), .int .u64 Q, .bool G]) (t := 49) (fr := (0, 0)) (heap_alloc_new w4 _)) (by simp [Value.oneCell'])
                (by omega) (by unfold maxLen; omega) (by omega) (by simp; omega) (w4.heap.size + 1) (by simp) ?_; intro gg cap2 w6 hown2 hgrow hat hlt2))
          have B6 : Hid (Below w1.heap.size w1 w6) := Lib.hid (Below.grown ((B4.out.alloc hz4 _).drew) hgrow (by simp; omega) (fun j hj => (O4.out.lt _ hj).1))
          have W6 : Hid (Below w.heap.size w w6) := Lib.hid (B1.out.trans (B6.out.mono B1.out.size))
          have O6 := Lib.hid hown2
          clear hown2 hgrow
          go_wp2_with fail
          exact ⟨⟨_, k + 1, o + E.size, rfl, by go_num, by omega, by go_num, by have := HOO.out; have := HEN.out; have := HES.out; omega, by rw [HRN.out, ← HOO.out, ← List.append_assoc, HFL.out, List.length_append, ← HM.out]; exact O6.out, B6.out, W6.out⟩, by simp [intOf]; omega⟩
        · have hkn : k = nl := by omega
          have hlk : ¬ (k : Int) < (nl : Int) := by omega
          have htk : l.take k = l := by rw [hkn, HNL.out, List.take_length]
          have HO := Lib.hid hown
          clear hown
          rw [htk] at HO HOO
          have HO2 := Lib.hid HO.out
          have hy6 : Y.size ≤ 1000000 := by omega
          have hpy : P + Y.size ≤ 1000000 := by omega
          clear htk
          go_wp2_with fail
          exact ⟨⟨_, j + 1, rfl, by go_num, by omega, by congr 1; have := HCN.out; have := HYY.out; omega, by rw [HNX.out, Nat.zero_add]; exact HO2.out, hb1, hbw⟩, by simp [intOf]; omega⟩
    · obtain rfl : j = N := by omega
      have hall : ll.take j = ll := by rw [HN.out, List.take_length]
      rw [hall] at HO ⊢
      have hnlt : ¬ (j : Int) < (j : Int) := by omega
      obtain ⟨a, cap, rfl, hrec⟩ := owns_ents HO.out
      have HC := Lib.hid hrec
      clear hrec
      go_wp2_with fail
      go_ret2
      exact ⟨a, cap, rfl, HC.out, hbw⟩

end Go.Proofs.Ytdifecclldkhpaa
