/- Rows of names that the program owns: searched, one put in, one taken away, copied. -/
import Derived.Test.YtmpipfhlicfagaaDlays
import Derived.Test.YtmpipfhlicfagaaDmath
import Derived.Test.YtmpipfhlicfagaaDbits
namespace Go.Proofs.Ytmpipfhlicfagaa
open Go.RowKit Go.Shelf

/-! ### blocks -/
theorem block_setCells (b : Nat) (e : TypeId) : ∀ (vs : List Value) (o : Nat) (w : World) (cur : Array Value), w.heap[b]? = some (.cells cur e (0, 0)) → o + vs.length ≤ cur.size →
    ∃ cur', (w.setCells b o vs).heap[b]? = some (.cells cur' e (0, 0)) ∧ cur'.size = cur.size ∧ ∀ j, cur'[j]? = if o ≤ j ∧ j < o + vs.length then vs[j - o]? else cur[j]?
  | [], o, w, cur, h, _ => ⟨cur, h, rfl, fun j => by rw [if_neg (by simp only [List.length_nil]; omega)]⟩
  | v :: r, o, w, cur, h, hs => by
    rw [List.length_cons] at hs
    obtain ⟨cur', h1, h2, h3⟩ := block_setCells b e r (o + 1) (w.setCell ⟨b, o, none⟩ v) (cur.setIfInBounds o v) (heap_setCell_same w b o cur e v h) (by simp; omega)
    refine ⟨cur', h1, by rw [h2]; simp, fun j => ?_⟩
    rw [h3 j, List.length_cons]
    by_cases hj : j = o
    · subst hj
      rw [if_neg (by omega), if_pos (by omega)]
      simp [Array.getElem?_setIfInBounds]
      omega
    · by_cases hin : o + 1 ≤ j ∧ j < o + 1 + r.length
      · rw [if_pos hin, if_pos (by omega)]
        obtain ⟨i, rfl⟩ : ∃ i, j = o + 1 + i := ⟨j - (o + 1), by omega⟩
        rw [show o + 1 + i - (o + 1) = i by omega, show o + 1 + i - o = i + 1 by omega]
        simp
      · rw [if_neg hin, if_neg (by omega)]
        rw [Array.getElem?_setIfInBounds, if_neg (by omega)]

theorem grown_setCells (b : Nat) : ∀ (vs : List Value) (o : Nat) (w : World), w.grownBy (w.setCells b o vs) (some b)
  | [], _, w => ⟨rfl, rfl, rfl, Nat.le_refl _, fun _ _ _ => rfl⟩
  | v :: r, o, w => (⟨rfl, rfl, rfl, by simp [World.setCell], fun k _ hk => Below.heap_setCell _ _ _ _ (fun e => hk (by rw [e]))⟩ : w.grownBy (w.setCell ⟨b, o, none⟩ v) (some b)).trans (grown_setCells b r (o + 1) _)

theorem grown_drewN (q : Nat) (w : World) (r : Option Nat) : w.grownBy (w.drewN q) r := ⟨rfl, rfl, rfl, Nat.le_refl _, fun _ _ _ => rfl⟩

theorem owns_of_cells {w : World} {B g cap n : Nat} {e : TypeId} {cur : Array Value} {xs : List Value} (hB : B ≤ g) (hg : w.heap[g]? = some (.cells cur e (0, 0))) (hs : cur.size = cap) (hn : n ≤ cap) (hc : cap ≤ maxLen) (hx : xs.length = n)
    (h : ∀ j, j < n → cur[j]? = xs[j]?) : w.ownsRow B e 1 (.slice (some ⟨g, 0, none⟩) n cap) n xs := by
  refine ⟨by omega, Or.inr ⟨g, cap, cur, rfl, hB, hg, hn, hc, by omega, ?_⟩⟩
  apply List.ext_getElem?
  intro j
  rw [List.getElem?_take, Nat.mul_one]
  by_cases hj : j < n
  · rw [if_pos hj, ← h j hj]; simp
  · rw [if_neg hj, List.getElem?_eq_none (by omega)]

/-- What a row of one-cell elements is: nil, or a block. -/
theorem owns_cases {w : World} {B n : Nat} {e : TypeId} {v : Value} {xs : List Value} (h : w.ownsRow B e 1 v n xs) :
    (v = .slice none 0 0 ∧ n = 0 ∧ xs = []) ∨ ∃ g cap cur, v = .slice (some ⟨g, 0, none⟩) n cap ∧ B ≤ g ∧ g < w.heap.size ∧ w.heap[g]? = some (.cells cur e (0, 0)) ∧ n ≤ cap ∧ cap ≤ maxLen ∧ cur.size = cap ∧ xs.length = n ∧
      (∀ j, j < n → cur[j]? = xs[j]?) ∧ (∀ j, j < n → w.cell? ⟨g, j, none⟩ = xs[j]?) ∧ (∀ j, j < cap → (w.cell? ⟨g, j, none⟩).isSome = true) ∧ (∀ j, w.frozen? ⟨g, j, none⟩ = false) := by
  obtain ⟨hl, h⟩ := h
  rw [Nat.mul_one] at hl
  rcases h with ⟨rfl, rfl⟩ | ⟨g, cap, cur, rfl, hB, hg, hn, hc, hs, ht⟩
  · exact Or.inl ⟨rfl, rfl, List.eq_nil_of_length_eq_zero (by omega)⟩
  · rw [Nat.mul_one] at hs ht
    have hcell : ∀ j, w.cell? ⟨g, j, none⟩ = cur[j]? := fun j => cell_of_row w g j cur e (0, 0) hg
    have hcur : ∀ j, j < n → cur[j]? = xs[j]? := fun j hj => by rw [← ht, List.getElem?_take, if_pos hj]; simp
    refine Or.inr ⟨g, cap, cur, rfl, hB, (Array.getElem?_eq_some_iff.1 hg).1, hg, hn, hc, hs, hl, hcur, fun j hj => by rw [hcell, hcur j hj], fun j hj => ?_, fun j => ?_⟩
    · rw [hcell, Array.getElem?_eq_getElem (by omega)]; rfl
    · simp [World.frozen?, hg]

/-! ### names -/
def strs (ns : List (List UInt8)) : List Value := ns.map fun n => .string (bs n)
theorem strs_len (ns : List (List UInt8)) : (strs ns).length = ns.length := by simp [strs]
theorem strs_at (ns : List (List UInt8)) (j : Nat) : (strs ns)[j]? = ns[j]?.map fun n => .string (bs n) := by simp [strs]
theorem strs_one (ns : List (List UInt8)) : ∀ v ∈ strs ns, v.oneCell' = true := by
  intro v hv
  simp only [strs, List.mem_map] at hv
  obtain ⟨n, _, rfl⟩ := hv
  rfl
theorem bs_toList (l : List UInt8) : (bs l).toList = l := by rw [Lib.toList_data]; rfl

/-- The place that is searched for: how many names stand ahead. -/
theorem search_any (B : Nat) (v : Value) (ns : List (List UInt8)) (x : List UInt8) (w : World) (h : w.ownsRow B 9 1 v ns.length (strs ns)) (hu : Up id ns) (hn : ns.length < 1099511627776) :
    Calls Try.prog 43 #[v, .string (bs x)] w fun e w' => ∃ q y, e = .returned (.tuple #[.int .i64 (pos id ns x : Nat), .bool y]) ∧ w' = w.drewN q := by
  rcases owns_cases h with ⟨rfl, h0, _⟩ | ⟨g, cap, cur, rfl, hB, _, hg, hcap, _, hs, hl, hcur, hcell, _, _⟩
  · refine (Any2.slices_BinarySearch_string_empty laysSearch none 0 (bs x) w).mono ?_
    rintro e w' ⟨rfl, rfl⟩
    have : ns = [] := List.eq_nil_of_length_eq_zero h0
    subst this
    exact ⟨0, false, rfl, rfl⟩
  · let Sx : Nat → ByteArray := fun t => bs ((ns[t]?).getD x)
    have hc : ∀ j, j < ns.length → w.cell? ⟨g, 0 + j, none⟩ = some (.string (Sx j)) := by
      intro j hj
      rw [Nat.zero_add, hcell j hj, strs_at, List.getElem?_eq_getElem hj]
      simp [Sx, List.getElem?_eq_getElem hj]
    refine (Any2.slices_BinarySearch_string laysSearch g 0 ns.length cap Sx (bs x) w (by omega) hc).mono ?_
    rintro e w' ⟨rfl, q, rfl⟩
    have hk : Lib.bsGo (fun t => Op.bytesLess (Sx t).toList (bs x).toList) ns.length 0 ns.length = pos id ns x := by
      refine Lib.bsGo_spec _ _ (fun t ht => ?_) (fun t ht => ?_) _ _ _ (by omega) (Nat.zero_le _) (pos_le ns x)
      · have hlt : t < ns.length := Nat.lt_of_lt_of_le ht (pos_le ns x)
        have := pos_before (k := id) ht (List.getElem?_eq_getElem hlt)
        rw [bs_toList, bs_toList, List.getElem?_eq_getElem hlt]
        exact this
      · rw [bs_toList, bs_toList]
        cases hx : ns[t]? with
        | none => exact lt_irrefl x
        | some c => exact pos_behind (k := id) hu ht hx
    rw [hk]
    exact ⟨q, _, rfl, rfl⟩

theorem insert_any (B : Nat) (v : Value) (ns : List (List UInt8)) (i : Nat) (x : List UInt8) (vb : Nat) (w : World) (h : w.ownsRow B 9 1 v ns.length (strs ns)) (hi : i ≤ ns.length) (hn : ns.length < 1099511627776)
    (hvb : w.heap[vb]? = some (.cells #[.string (bs x)] 9 (0, 0))) (hne : v.ownBlock ≠ some vb) (hB : B ≤ w.heap.size) :
    Calls Try.prog 44 #[v, .int .i64 i, .slice (some ⟨vb, 0, none⟩) 1 1] w fun e w' => ∃ v', e = .returned v' ∧
      w'.ownsRow B 9 1 v' (ns.length + 1) (strs (ns.take i ++ [x] ++ ns.drop i)) ∧ w.grownBy w' v.ownBlock ∧ (v'.ownBlock = v.ownBlock ∨ v'.ownBlock = some w.heap.size) := by
  have hvs : ∀ j u, ([.string (bs x)] : List Value)[j]? = some u → w.cell? ⟨vb, 0 + j, none⟩ = some u := by
    intro j u hu
    rw [Nat.zero_add, cell_of_row w vb j _ _ (0, 0) hvb]
    simpa using hu
  have h1v : ∀ u ∈ ([.string (bs x)] : List Value), u.oneCell' = true := by simp [Value.oneCell']
  have hz : ∀ k, (Builtin.zeroCells (Value.string ⟨#[]⟩).cells k).size = k := fun k => by rw [size_zeroCells]; simp [Value.cells]
  have hend : ∀ base cap, ns.length ≤ cap → cap < ns.length + 1 → (base = none → ns.length = 0) → (∀ a, base = some a → ∀ j u, (strs ns)[j]? = some u → w.cell? (a.add j) = some u) → v.ownBlock = none ∨ True →
      Calls Try.prog 44 #[.slice base ns.length cap, .int .i64 (ns.length : Nat), .slice (some ⟨vb, 0, none⟩) 1 1] w fun e w' => ∃ v', e = .returned v' ∧
      w'.ownsRow B 9 1 v' (ns.length + 1) (strs (ns ++ [x])) ∧ w.grownBy w' v.ownBlock ∧ (v'.ownBlock = v.ownBlock ∨ v'.ownBlock = some w.heap.size) := by
    intro base cap h1 h2 h3 h4 _
    refine (Any2.slices_Insert_string_end_grow laysInsert base ns.length cap vb 0 1 1 (strs ns) [.string (bs x)] w (by omega) h1 h2 (by omega) (strs_len ns) rfl h3 h4 hvs h1v).mono ?_
    rintro e w' ⟨rfl, rfl⟩
    have hge := grownCap_ge w (ns.length + 1) cap (laysInsert_ren.t 9)
    refine ⟨_, rfl, ?_, (grown_drewN 1 w _).trans (World.grownBy_alloc _ _ _), Or.inr rfl⟩
    refine owns_of_cells hB (heap_alloc_new _ _) ?_ hge (grownCap_le_maxLen w _ _ _ (by unfold maxLen; omega)) (by rw [strs_len]; simp) (fun j hj => ?_)
    · simp only [Array.size_append, List.size_toArray, List.length_append, strs_len, List.length_singleton, hz]
      omega
    · have : j < ((strs ns ++ [Value.string (bs x)]).toArray).size := by simp [strs_len]; omega
      rw [Array.getElem?_append_left this]
      simp [strs]
  rcases owns_cases h with ⟨rfl, h0, _⟩ | ⟨g, cap, cur, rfl, hBg, hgl, hg, hcap, hcm, hs, hl, hcur, hcell, hsome, hfz⟩
  · obtain rfl : ns = [] := List.eq_nil_of_length_eq_zero h0
    obtain rfl : i = 0 := by simpa using hi
    have := hend none 0 (by simp) (by simp) (fun _ => rfl) (fun a ha => by cases ha) (Or.inr trivial)
    simpa using this
  · have hgv : g ≠ vb := fun e => hne (by rw [e]; rfl)
    have hcs : ∀ j u, (strs ns)[j]? = some u → w.cell? ⟨g, 0 + j, none⟩ = some u := by
      intro j u hu
      have hj : j < ns.length := by rw [← strs_len ns]; exact (List.getElem?_eq_some_iff.1 hu).1
      rw [Nat.zero_add, hcell j hj, hu]
    have hc63 : cap ≤ 9223372036854775807 := by unfold maxLen at hcm; omega
    by_cases hroom : ns.length + 1 ≤ cap
    · by_cases hlt : i < ns.length
      · refine (Any2.slices_Insert_string_shift laysInsert g 0 ns.length cap i vb 0 1 1 (strs ns) [.string (bs x)] w hlt (by omega) hroom hc63 hgv.symm (strs_len ns) rfl hcs (fun j hj => by rw [Nat.zero_add]; exact hsome j (by omega)) (fun j _ => by rw [Nat.zero_add]; exact hfz j)
          hvs (strs_one ns) h1v 9 9 1 cap (by simp [World.shape?, hvb]) (by simp [World.shape?, hg, hs]) (by omega) (by simp [World.frozen?, hvb]) (by simp [World.frozen?, hvb])).mono ?_
        rintro e w' ⟨rfl, rfl⟩
        have hdl : ((strs ns).drop i).length = ns.length - i := by rw [List.length_drop, strs_len]
        obtain ⟨cur1, k1, k2, k3⟩ := block_setCells g 9 ((strs ns).drop i) (0 + (i + 1)) w.drew cur hg (by omega)
        obtain ⟨cur2, m1, m2, m3⟩ := block_setCells g 9 [.string (bs x)] (0 + i) _ cur1 k1 (by simp; omega)
        refine ⟨_, rfl, owns_of_cells hBg m1 (by omega) (by omega) hcm (by rw [strs_len]; simp; omega) (fun j hj => ?_), ((grown_drewN 1 w _).trans (grown_setCells g _ _ _)).trans (grown_setCells g _ _ _), Or.inl rfl⟩
        rw [m3 j, k3 j, hdl, strs_at, List.append_assoc]
        simp only [Nat.zero_add, List.length_singleton]
        by_cases c1 : j < i
        · rw [if_neg (by omega), if_neg (by omega), hcur j (by omega), strs_at, List.getElem?_append_left (by simp; omega), List.getElem?_take, if_pos c1]
        · by_cases c2 : j = i
          · subst c2
            rw [if_pos (by omega), Nat.sub_self, List.getElem?_append_right (by simp; omega)]
            simp [Nat.min_eq_left hi]
          · rw [if_neg (by omega), if_pos (by omega), List.getElem?_append_right (by simp; omega), List.getElem?_append_right (by simp; omega), List.getElem?_drop, List.getElem?_drop, strs_at]
            simp only [List.length_take, List.length_singleton, Nat.min_eq_left hi]
            rw [show i + (j - (i + 1)) = i + (j - i - 1) by omega]
      · obtain rfl : i = ns.length := by omega
        refine (Any2.slices_Insert_string_end_room laysInsert g 0 ns.length cap vb 0 1 1 [.string (bs x)] w (by omega) hroom hc63 rfl (fun j hj => by rw [show 0 + ns.length + j = ns.length + j by omega]; exact hsome _ (by omega)) (fun j _ => hfz _) hvs h1v).mono ?_
        rintro e w' ⟨rfl, rfl⟩
        obtain ⟨cur1, k1, k2, k3⟩ := block_setCells g 9 [.string (bs x)] (0 + ns.length) w cur hg (by simp; omega)
        refine ⟨_, rfl, owns_of_cells hBg k1 (by omega) (by omega) hcm (by rw [strs_len]; simp) (fun j hj => ?_), grown_setCells g _ _ _, Or.inl rfl⟩
        rw [k3 j, strs_at]
        simp only [Nat.zero_add, List.length_singleton, List.take_length, List.drop_length, List.append_nil]
        by_cases c1 : j < ns.length
        · rw [if_neg (by omega), hcur j c1, strs_at, List.getElem?_append_left c1]
        · obtain rfl : j = ns.length := by omega
          rw [if_pos (by omega), Nat.sub_self, List.getElem?_append_right (by omega)]
          simp
    · by_cases hlt : i < ns.length
      · refine (Any2.slices_Insert_string_grow laysInsert g 0 ns.length cap i vb 0 1 1 (strs ns) [.string (bs x)] w hlt (by omega) hcap (by omega) (by omega) (strs_len ns) rfl hcs hvs (strs_one ns) h1v).mono ?_
        rintro e w' ⟨rfl, rfl⟩
        have hge := grownCap_ge w (ns.length + 1) cap (laysInsert_ren.t 9)
        have hgm := grownCap_le_maxLen w (ns.length + 1) cap (laysInsert_ren.t 9) (by unfold maxLen; omega)
        generalize grownCap w (ns.length + 1) cap (laysInsert_ren.t 9) = G at hge hgm ⊢
        have hdl : ((strs ns).drop i).length = ns.length - i := by rw [List.length_drop, strs_len]
        have htl : ((strs ns).take i).length = i := by rw [List.length_take, strs_len]; omega
        obtain ⟨cur1, k1, k2, k3⟩ := block_setCells w.heap.size 9 [.string (bs x)] i (w.alloc (.cells (((strs ns).take i).toArray ++ Builtin.zeroCells (Value.string ⟨#[]⟩).cells (ns.length + 1 - i) ++ Builtin.zeroCells (Value.string ⟨#[]⟩).cells (G - (ns.length + 1))) 9)).drew _ (heap_alloc_new w _)
          (by simp only [Array.size_append, List.size_toArray, htl, hz, List.length_singleton]; omega)
        obtain ⟨cur2, m1, m2, m3⟩ := block_setCells w.heap.size 9 ((strs ns).drop i) (i + 1) (((w.alloc (.cells (((strs ns).take i).toArray ++ Builtin.zeroCells (Value.string ⟨#[]⟩).cells (ns.length + 1 - i) ++ Builtin.zeroCells (Value.string ⟨#[]⟩).cells (G - (ns.length + 1))) 9)).drew.setCells w.heap.size i [.string (bs x)])).drew cur1 k1
          (by rw [k2]; simp only [Array.size_append, List.size_toArray, htl, hz, hdl]; omega)
        have hgr : ∀ (row : Option Nat) (vs : List Value) (o : Nat) (W : World), w.grownBy W row → w.grownBy (W.setCells w.heap.size o vs) row := fun row vs o W hW =>
          ⟨(grown_setCells _ vs o W).os.trans hW.os, (grown_setCells _ vs o W).tape.trans hW.tape, (grown_setCells _ vs o W).output.trans hW.output, Nat.le_trans hW.size (grown_setCells _ vs o W).size,
            fun k hk hne => ((grown_setCells w.heap.size vs o W).block k (Nat.lt_of_lt_of_le hk hW.size) (fun e => by cases e; omega)).trans (hW.block k hk hne)⟩
        have hdr : ∀ (row : Option Nat) (W : World), w.grownBy W row → w.grownBy W.drew row := fun row W hW => ⟨hW.os, hW.tape, hW.output, hW.size, hW.block⟩
        refine ⟨_, rfl, owns_of_cells hB m1 ?_ hge hgm (by rw [strs_len]; simp; omega) (fun j hj => ?_), ?_, Or.inr rfl⟩
        · rw [m2, k2]; simp only [Array.size_append, List.size_toArray, htl, hz]; omega
        · rw [m3 j, k3 j, hdl, strs_at, List.append_assoc]
          simp only [List.length_singleton]
          by_cases c1 : j < i
          · rw [if_neg (by omega), if_neg (by omega), Array.append_assoc, Array.getElem?_append_left (by simp only [List.size_toArray, htl]; omega), List.getElem?_toArray, List.getElem?_take, if_pos c1, strs_at, List.getElem?_append_left (by simp; omega), List.getElem?_take, if_pos c1]
          · by_cases c2 : j = i
            · subst c2
              rw [if_neg (by omega), if_pos (by omega), Nat.sub_self, List.getElem?_append_right (by simp; omega)]
              simp [Nat.min_eq_left hi]
            · rw [if_pos (by omega), List.getElem?_append_right (by simp; omega), List.getElem?_append_right (by simp; omega), List.getElem?_drop, List.getElem?_drop, strs_at]
              simp only [List.length_take, List.length_singleton, Nat.min_eq_left hi]
              rw [show i + (j - (i + 1)) = i + (j - i - 1) by omega]
        · exact hgr _ _ _ _ (hdr _ _ (hgr _ _ _ _ (hdr _ _ (World.grownBy_alloc w _ _))))
      · obtain rfl : i = ns.length := by omega
        have := hend (some ⟨g, 0, none⟩) cap hcap (by omega) (fun e => by cases e) (fun a ha j u hu => by cases ha; rw [Addr.add_lit]; exact hcs j u hu) (Or.inr trivial)
        simpa using this

theorem encStr_bs (n : List UInt8) : encStr n = Value.string (bs n) := rfl

/-- The name at place i is taken away. -/
theorem delete_any (B : Nat) (v : Value) (ns : List (List UInt8)) (i : Nat) (w : World) (h : w.ownsRow B 9 1 v ns.length (strs ns)) (hi : i < ns.length) (hn : ns.length < 1099511627776) :
    Calls Try.prog 45 #[v, .int .i64 i, .int .i64 ((i : Int) + 1)] w fun e w' => ∃ v', e = .returned v' ∧
      w'.ownsRow B 9 1 v' (ns.length - 1) (strs (ns.take i ++ ns.drop (i + 1))) ∧ w.grownBy w' v.ownBlock ∧ v'.ownBlock = v.ownBlock := by
  rcases owns_cases h with ⟨rfl, h0, _⟩ | ⟨g, cap, cur, rfl, hBg, hgl, hg, hcap, hcm, hs, hl, hcur, hcell, hsome, hfz⟩
  · omega
  · have hc63 : cap ≤ 9223372036854775807 := by unfold maxLen at hcm; omega
    let Sx : Nat → ByteArray := fun t => bs ((ns[t]?).getD [])
    have hSx : Lib.strsOf Sx ns.length = ns := by
      apply List.ext_getElem?
      intro j
      unfold Lib.strsOf
      by_cases hj : j < ns.length
      · simp [Sx, hj, bs]
      · rw [List.getElem?_eq_none (by simp; omega), List.getElem?_eq_none (by omega)]
    have hc : ∀ j, j < ns.length → w.cell? ⟨g, 0 + j, none⟩ = some (.string (Sx j)) := by
      intro j hj
      rw [Nat.zero_add, hcell j hj, strs_at, List.getElem?_eq_getElem hj]
      simp [Sx, List.getElem?_eq_getElem hj]
    have hD := Any.slices_Delete_string_cells laysDelete g 0 ns.length cap i (i + 1) Sx w hcap hc63 (by omega) (by omega) hc (fun j _ => by rw [Nat.zero_add]; exact hfz j)
    rw [hSx] at hD
    refine hD.mono ?_
    rintro e w' ⟨rfl, q, rfl⟩
    rw [show i + 1 - i = 1 by omega]
    obtain ⟨cur1, k1, k2, k3⟩ := block_setCells g 9 ((ns.take i ++ ns.drop (i + 1) ++ List.replicate 1 []).map encStr) 0 (w.drewN q) cur hg (by simp; omega)
    refine ⟨_, rfl, owns_of_cells hBg k1 (by omega) (by omega) hcm (by rw [strs_len]; simp; omega) (fun j hj => ?_), (grown_drewN q w _).trans (grown_setCells g _ _ _), rfl⟩
    rw [k3 j, if_pos (by simp; omega), strs_at, List.getElem?_map, Nat.sub_zero, List.getElem?_append_left (by simp; omega)]
    rfl

/-- A copy. -/
theorem clone_any (B : Nat) (v : Value) (ns : List (List UInt8)) (w : World) (h : w.ownsRow B 9 1 v ns.length (strs ns)) (hn : ns.length < 1099511627776) :
    Calls Try.prog 42 #[v] w fun e w' => ∃ v', e = .returned v' ∧ w'.ownsRow w.heap.size 9 1 v' ns.length (strs ns) ∧ Below w.heap.size w w' := by
  rcases owns_cases h with ⟨rfl, h0, _⟩ | ⟨g, cap, cur, rfl, hBg, hgl, hg, hcap, hcm, hs, hl, hcur, hcell, hsome, hfz⟩
  · obtain rfl : ns = [] := List.eq_nil_of_length_eq_zero h0
    refine (Any.slices_Clone_string_nil laysClone 0 0 w).mono ?_
    rintro e w' ⟨rfl, rfl⟩
    exact ⟨_, rfl, World.ownsRow_nil _ _ _ _, Below.refl _ _⟩
  · have hz : ∀ j, j < (ns.map bs).length → w.cell? ⟨g, 0 + j, none⟩ = some (.string ((ns.map bs).getD j ByteArray.empty)) := by
      intro j hj
      rw [List.length_map] at hj
      rw [Nat.zero_add, hcell j hj, strs_at, List.getElem?_eq_getElem hj]
      simp [List.getD, hj]
    refine (Any.slices_Clone_string laysClone g 0 ns.length cap (ns.map bs) w (by simp) (by omega) hz).mono ?_
    rintro e w' ⟨v', rfl, h1, _, h3⟩
    refine ⟨v', rfl, ?_, h3⟩
    have e1 : ((ns.map bs).take ns.length).map Value.string = strs ns := by
      rw [List.take_of_length_le (by simp), List.map_map]; rfl
    rw [e1] at h1
    exact h1
end Go.Proofs.Ytmpipfhlicfagaa
