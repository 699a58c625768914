/- What the calls entryOf and Of of package hint return. -/
import Derived.Test.YtdifecclldkhpaaHread
import Derived.Test.YtdifecclldkhpaaHplace
import Derived.Test.YtdifecclldkhpaaRone
import Derived.Test.YtdifecclldkhpaaFlight
namespace Go.Proofs.Ytdifecclldkhpaa
open Go.RowKit

set_option maxRecDepth 100000 in
set_option maxHeartbeats 400000 in
theorem entry_of (Q : Int) (K V : ByteArray) (G : Bool) (o l : Int) (w : World) :
    Calls Try.prog 41 #[.agg #[.int .u64 Q, .string K, .string V, .bool G], .int .i64 o, .int .i64 l] w fun e w' => e = .returned (.agg #[.string K, .int .i64 o, .int .i64 l, .int .u64 Q, .bool G]) ∧ Below w.heap.size w w' := by
  go_enter Try.func41, Try.ntmps41
  go_wp2
  exact bodyPost_ret (v := .agg #[.string K, .int .i64 o, .int .i64 l, .int .u64 Q, .bool G]) (by simp [results, Try.results41, go_sem]) rfl ⟨rfl, ((Below.refl _ _).alloc (Nat.le_refl _) _).alloc (by simp) _⟩

/-- What Of leaves. -/
def HoPost (w : World) (x : List Et × Nat) (e : Ending) (w' : World) : Prop :=
  ∃ a cap, e = .returned (.tuple #[.slice a x.1.length cap, .int .i64 ((x.2 : Nat) : Int)]) ∧ EntsIn w' a x.1 ∧ Below w.heap.size w w'

theorem cat_big : ∀ (ll : List (List Rc)), (∀ l ∈ ll, good l = true) → 8 * ll.length ≤ (cat ll).length
  | [], _ => by simp
  | l :: ll, h => by
    have h1 := fbs_len (h l (by simp))
    have h2 := cat_big ll (fun x hx => h x (by simp [hx]))
    rw [cat_cons, List.length_append, List.length_cons]
    omega

theorem hof_small (ll : List (List Rc)) (a : Nat) (h : ∀ l ∈ ll, good l = true) : (hof a ll).length ≤ 16 * ll.length := by
  rw [hof_len]
  induction ll with
  | nil => simp
  | cons l ll ih =>
    have h1 := ((good_iff l).1 (h l (by simp))).1.2
    have h2 := ih (fun x hx => h x (by simp [hx]))
    rw [List.flatten_cons, List.length_append, List.length_cons]
    omega

theorem cat_split (ll : List (List Rc)) {j : Nat} (hj : j < ll.length) : cat ll = cat (ll.take j) ++ (fbs ll[j] ++ cat (ll.drop (j + 1))) := by
  rw [← cat_cons, List.getElem_cons_drop, cat, cat, cat, ← List.flatMap_append, List.take_append_drop]

theorem good_fits {l : List Rc} (h : rights l = true) : Fits l := fun r hr => by
  rw [rights, List.all_eq_true] at h
  obtain ⟨h1, h2, h3, h4, h5, h6⟩ := (right_iff r).1 (h r hr)
  omega

theorem ot_fbs {l : List Rc} (h : good l = true) (s : List UInt8) : ot (fbs l ++ s) = (seal4 (encs l), s, 0) := by
  have := good_len h
  exact ot_txt (lt64 (by rw [seal_len]; omega))

theorem infoEnt2 : (Try.prog.info? 39).map (fun i => (i.zero, i.size, i.bytes)) = some (some (.agg #[.string ⟨#[]⟩, .int .i64 0, .int .i64 0, .int .u64 0, .bool false]), 5, 48) := infoEnt

theorem ent_flat (acc : List Et) (off : Nat) (r : Rc) : eflat (acc ++ [ent off r]) = eflat acc ++ [.string (bs r.k), .int .i64 (off : Int), .int .i64 ((enc r).length : Int), .int .u64 ((r.q : Nat) : Int), .bool r.g] := by
  rw [eflat_snoc]; rfl

set_option maxRecDepth 100000 in
set_option maxHeartbeats 2000000 in
theorem hof_any (b : List UInt8) (w : World) (hb : b.length ≤ 1000000) :
    Calls Try.prog 15 #[.string (bs b)] w (HoPost w (hof 0 (fs b).1, (fs b).2)) := by
  obtain ⟨i0, hi, hz0, hz1, hz2⟩ := info_parts infoEnt
  have HI := Lib.hid (And.intro hi (And.intro hz0 (And.intro hz1 hz2)))
  clear hi hz0 hz1 hz2
  obtain ⟨ll, n, hfs⟩ : ∃ ll n, fs b = (ll, n) := ⟨_, _, rfl⟩
  obtain ⟨hgood, hn, hcat⟩ := fs_ok hfs
  have H1 := fun W => fscan_any b W hb
  rw [hfs] at H1 ⊢
  have H1 := Lib.hid H1
  have HG := Lib.hid hgood
  have hbig := cat_big ll hgood
  have hlen : (cat ll).length ≤ b.length := by have := congrArg List.length hcat; rw [List.length_append] at this; omega
  have HCAT := Lib.hid hcat
  have hB := bs_size b
  have HX := Lib.hid (fun k => ext_of b k)
  clear hfs hgood hcat
  generalize bs b = B at *
  have HB := Lib.hid hB
  rw [← hB] at hb hlen
  clear hB
  obtain ⟨N, hN⟩ : ∃ N, N = ll.length := ⟨_, rfl⟩
  have HN := Lib.hid hN
  have hNb : 8 * N ≤ 1000000 := by omega
  have HCL := Lib.hid hlen
  clear hbig hlen
  go_enter Try.func15, Try.ntmps15
  go_wp2_with fail
  (with_reducible refine (H1.out _).mono ?_)
  rintro e w1 ⟨a1, cap1, rfl, r1, b1⟩
  have R1 := Lib.hid r1
  have B1 := Lib.hid b1
  clear r1 b1 H1
  rw [← hN]
  clear hN
  go_wp2_with fail
  go_loopw [6, 7, 26] (fun v p i wr => ∃ (u : Value) (j : Nat), u = v ∧ i = .int .i64 j ∧ j ≤ N ∧ p = .int .i64 ((cat (ll.take j)).length : Int) ∧ wr.ownsRow w1.heap.size 39 5 u (hof 0 (ll.take j)).length (eflat (hof 0 (ll.take j))) ∧ Below w1.heap.size w1 wr ∧ Below w.heap.size w wr) (fun _ _ i _ => N - (intOf i).toNat)
  case atStart => exact ⟨_, 0, rfl, rfl, by omega, rfl, World.ownsRow_nil _ _ _ _, Below.refl _ _, B1.out⟩
  case round =>
    obtain ⟨u, j, rfl, rfl, hj, rfl, hown, hb1, hbw⟩ := hrel
    have HO := Lib.hid hown
    clear hown
    by_cases hlt : j < N
    · obtain ⟨g1, off1, ab, capb, rfl, hbl1, c1, rr⟩ := bat_of R1.out j (by rw [← HN.out]; exact hlt)
      have hlt' : j < ll.length := by rw [← HN.out]; exact hlt
      have hgl := HG.out _ (List.getElem_mem hlt')
      have hgj : ∀ l ∈ ll.take j, good l = true := fun l hl => HG.out l (List.mem_of_mem_take hl)
      have hsp := cat_split ll hlt'
      have hnx := hof_next 0 ll hlt'
      have hcn : (cat (ll.take (j + 1))).length = (cat (ll.take j)).length + (fbs (ll[j]'hlt')).length := by rw [List.take_succ_eq_append_getElem hlt', cat_snoc, List.length_append]
      have hsm := hof_small (ll.take j) 0 hgj
      have htl : (ll.take j).length ≤ j := List.length_take_le _ _
      rw [← hb1.cell (p := ⟨g1, _, none⟩) hbl1] at c1
      generalize hll : ll[j]'hlt' = l at *
      have hdrop : b.drop (cat (ll.take j)).length = fbs l ++ (cat (ll.drop (j + 1)) ++ b.drop n) := by
        rw [HCAT.out]
        rw [show List.drop n (cat ll ++ List.drop n b) = List.drop n b from by rw [← HCAT.out]]
        rw [hsp, List.append_assoc, List.drop_left, List.append_assoc]
      obtain ⟨hg16, hrl⟩ := (good_iff l).1 hgl
      have hbl := congrArg List.length hdrop
      rw [List.length_append, List.length_drop, ← HB.out] at hbl
      have hhd := head_le l
      have hp : (cat (ll.take j)).length ≤ B.size := by
        have := congrArg List.length hsp
        rw [List.length_append] at this
        have := HCL.out
        omega
      have hof1 := ot_fbs hgl (cat (ll.drop (j + 1)) ++ b.drop n)
      rw [← hdrop] at hof1
      have h2 := fun W => oftext_of (b.drop (cat (ll.take j)).length) (by rw [List.length_drop, ← HB.out]; omega) _ _ 0 hof1 W
      rw [← HX.out] at h2
      have h3 := fun W (hW : Below w1.heap.size w1 W) => all_any l ab capb W (by omega) (rr.later hW (Nat.le_refl _)) (good_fits hrl)
      rw [allV_yes hrl] at h3
      have zR := bs_size (cat (ll.drop (j + 1)) ++ b.drop n)
      have zX := bs_size (encs l)
      have HRR := Lib.hid rr
      have H2 := Lib.hid h2
      have H3 := Lib.hid h3
      have HNX := Lib.hid hnx
      have HCN := Lib.hid hcn
      have HRL := Lib.hid hrl
      have hle := hgl
      obtain ⟨zl1, zl2⟩ := good_len hgl
      rw [← zR] at hbl
      rw [← zX] at hhd zl1
      clear zR h2 h3 rr hgj hsp hdrop hof1 hgl hnx hcn hrl hle
      obtain ⟨nl, hnl⟩ : ∃ nl, nl = l.length := ⟨_, rfl⟩
      have HNL := Lib.hid hnl
      rw [← hnl] at c1 hg16
      rw [← HNL.out] at H3
      obtain ⟨P, hP⟩ : ∃ P, P = (cat (ll.take j)).length := ⟨_, rfl⟩
      have HP := Lib.hid hP
      rw [← hP] at H2 hbl hp HNX HCN ⊢
      clear hP hnl
      have hXX := zX
      have HXX := Lib.hid hXX
      clear zX hXX
      obtain ⟨hg1, hg2⟩ := hg16
      generalize bs (cat (ll.drop (j + 1)) ++ b.drop n) = R at *
      generalize bs (encs l) = X at *
      generalize bs (seal4 (encs l)) = Y at *
      have Q1 : Hid ((fbs l).length = head l + X.size) := Lib.hid hhd
      have Q2 : Hid (B.size = P + (head l + X.size) + R.size) := Lib.hid (by omega)
      have q3 : R.size + X.size ≤ B.size := by omega
      clear hhd hbl
      have hlti : (j : Int) < (N : Int) := by omega
      go_wp2_with fail
      (with_reducible refine (H2.out _).mono ?_)
      rintro e w2 ⟨rfl, b2⟩
      have B2 := Lib.hid (hb1.trans (b2.mono hb1.size))
      go_wp2_with fail
      (with_reducible refine (H3.out _ B2.out).mono ?_)
      rintro e w3 ⟨rfl, b3⟩
      have b23 := b2.trans (b3.mono b2.size)
      have B3 := Lib.hid (hb1.trans (b23.mono hb1.size))
      have W3 := Lib.hid (hbw.trans (b23.mono hbw.size))
      have O3 := Lib.hid (owns_later HO.out b23)
      clear b2 b3 b23 B2 hb1 hbw HO H2 H3 c1
      go_wp2_with fail
      go_loopw [6, 7, 53] (fun v p i wr => ∃ (u : Value) (k o : Nat), u = v ∧ i = .int .i64 k ∧ k ≤ nl ∧ p = .int .i64 (o : Int) ∧ o = P + head l + (encs (l.take k)).length ∧ wr.ownsRow w1.heap.size 39 5 u (hof 0 (ll.take j) ++ rows (P + head l) (l.take k)).length (eflat (hof 0 (ll.take j) ++ rows (P + head l) (l.take k))) ∧ Below w1.heap.size w1 wr ∧ Below w.heap.size w wr) (fun _ _ i _ => nl - (intOf i).toNat)
      case atStart => exact ⟨_, 0, P + head l, rfl, rfl, by omega, by congr 1; have := Q2.out; omega, by simp [encs], by simpa [rows] using O3.out, B3.out, W3.out⟩
      case round =>
        obtain ⟨u, k, o, rfl, rfl, hk, rfl, ho, hown, hb1, hbw⟩ := hrel
        have HO := Lib.hid hown
        have HOO := Lib.hid ho
        clear hown ho O3 B3 W3
        by_cases hkl : k < nl
        · have hkl' : k < l.length := by rw [← HNL.out]; exact hkl
          obtain ⟨g2, off2, rfl, hbl2, c0, c1, c2, c3⟩ := cells_of HRR.out k hkl'
          rw [← hb1.cell (p := ⟨g2, _, none⟩) hbl2] at c0 c1 c2 c3
          have hri : right l[k] = true := by
            have := HRL.out
            rw [rights, List.all_eq_true] at this
            exact this _ (List.getElem_mem hkl')
          obtain ⟨y1, y2, y3, y4, y5, y6⟩ := (right_iff _).1 hri
          have h4 := fun W => bytes_any l[k] W (by omega) (by omega) (by omega)
          rw [one_yes hri] at h4
          simp only [rv] at h4
          have hel := enc_len hri
          have HTK := Lib.hid (take_next l k hkl')
          have hcut : (encs (l.take (k + 1))).length ≤ (encs l).length := by
            have := congrArg (fun t => (encs t).length) (List.take_append_drop (k + 1) l)
            simp only [encs, List.flatMap_append, List.length_append] at this
            show (List.flatMap enc (List.take (k + 1) l)).length ≤ (List.flatMap enc l).length
            omega
          have HRN := Lib.hid (rows_next (P + head l) l hkl')
          have hsm2 : (hof 0 (ll.take j) ++ rows (P + head l) (l.take k)).length ≤ 16 * j + 16 := by
            rw [List.length_append, rows_len]
            have := List.length_take_le k l
            omega
          clear y1 y2 y3 y4 y5 y6 hri
          generalize l[k] = r at *
          rw [HTK.out, encs_snoc, List.length_append] at hcut
          have HEN : Hid ((encs (l.take (k + 1))).length = (encs (l.take k)).length + (enc r).length) := Lib.hid (by rw [HTK.out, encs_snoc, List.length_append])
          have ho2 : o + (enc r).length ≤ B.size := by
            have := HOO.out
            have := Q2.out
            have := HXX.out
            omega
          have HFL := Lib.hid (ent_flat (hof 0 (ll.take j) ++ rows (P + head l) (l.take k)) o r)
          have hes := bs_size (enc r)
          rw [← hes] at ho2 hel
          have HES := Lib.hid hes
          rw [← hes] at HFL
          have hlk : (k : Int) < (nl : Int) := by omega
          have hbz := hbw.size
          have K0 := Lib.hid (Box.made wr (.cells #[.int .u64 ((r.q : Nat) : Int), .string (bs r.k), .string (bs r.v), .bool r.g] 45))
          have H4 := Lib.hid h4
          clear hes h4 hcut
          generalize bs (enc r) = E at *
          generalize hK : bs r.k = K at *
          have HKK := Lib.hid hK
          clear hK
          generalize bs r.v = V at *
          generalize hQ : ((r.q : Nat) : Int) = Q at *
          generalize hG : r.g = G at *
          have HQG := Lib.hid (And.intro hQ hG)
          clear hQ hG
          go_wp2_with fail
          (with_reducible refine (H4.out _).mono ?_)
          rintro e w4 ⟨rfl, b4⟩
          have K4 := K0.out.call b4
          obtain ⟨_, d0, d1, d2, d3⟩ := Box4.cells K4
          have W4 := Lib.hid K4.1
          have O4 := Lib.hid (owns_later (HO.out.alloc (.cells #[.int .u64 Q, .string K, .string V, .bool G] 45)) b4)
          clear b4 K4 K0 H4 HO c0 c1 c2 c3
          go_wp2_with fail
          (with_reducible refine (entry_of _ _ _ _ _ _ _).mono ?_)
          rintro e w5 ⟨rfl, b5⟩
          have O5 := Lib.hid (owns_later O4.out b5)
          have W5 := Lib.hid (W4.out.trans (b5.mono W4.out.size))
          have z5 := W5.out.size
          have z51 := hb1.size
          clear b5 O4 W4 d0 d1 d2 d3
          go_wp2_with (at_builtin; refine wpList_append_own _ rfl _ _ 22 rfl w1.heap.size 39 i0 (.agg #[.string ⟨#[]⟩, .int .i64 0, .int .i64 0, .int .u64 0, .bool false]) 5 48 Try.underlying22 HI.out.1 HI.out.2.1 HI.out.2.2.1 HI.out.2.2.2 rfl (by decide) _ _ _ rfl (O5.out.alloc _) ⟨w5.heap.size, 0, none⟩ 1 1 [.string K, .int .i64 (o : Int), .int .i64 (E.size : Int), .int .u64 Q, .bool G] rfl rfl ?c1 (fun x hx => by simp at hx; rcases hx with rfl | rfl | rfl | rfl | rfl <;> rfl) (by unfold maxLen; omega) (by omega) (by simp; omega) ?_)
          case c1 => exact cell_five_new w5 _ _ _ _ _ _
          intro v' w6 hown' hgrow _
          have B6 : Hid (Below w1.heap.size w1 w6) := Lib.hid (Below.grown (hb1.trans ((W5.out.mono z51).alloc (by omega) _)) hgrow (by simp; omega) (fun j hj => (O5.out.lt _ hj).1))
          have W6 : Hid (Below w.heap.size w w6) := Lib.hid (B1.out.trans (B6.out.mono B1.out.size))
          have O6 := Lib.hid hown'
          clear hown' hgrow
          go_wp2_with fail
          go_roundw
          case rel => exact ⟨_, k + 1, o + E.size, rfl, by go_num, by omega, by go_num, by have := HOO.out; have := HEN.out; have := HES.out; omega, by rw [HRN.out, ← HOO.out, ← List.append_assoc, HFL.out, List.length_append, List.length_append]; exact O6.out, B6.out, W6.out⟩
          case measure => simp [intOf]; omega
        · have hkn : k = nl := by omega
          have hlk : ¬ (k : Int) < (nl : Int) := by omega
          have htk : l.take k = l := by rw [hkn, HNL.out, List.take_length]
          rw [htk] at HO HOO
          have HO2 := Lib.hid HO.out
          clear htk
          go_wp2_with fail
          go_roundw
          case rel => exact ⟨_, j + 1, rfl, by go_num, by omega, by congr 1; have := HOO.out; have := HCN.out; have := Q1.out; have := HXX.out; omega, by rw [HNX.out, Nat.zero_add]; exact HO2.out, hb1, hbw⟩
          case measure => simp [intOf]; omega
    · obtain rfl : j = N := by omega
      have hall : ll.take j = ll := by rw [HN.out, List.take_length]
      rw [hall] at HO ⊢
      have hnlt : ¬ (j : Int) < (j : Int) := by omega
      obtain ⟨a, cap, rfl, hrec⟩ := owns_ents HO.out
      have HC := Lib.hid hrec
      clear hrec
      go_wp2_with fail
      go_ret2
      exact ⟨a, cap, rfl, HC.out, hbw⟩

end Go.Proofs.Ytdifecclldkhpaa
