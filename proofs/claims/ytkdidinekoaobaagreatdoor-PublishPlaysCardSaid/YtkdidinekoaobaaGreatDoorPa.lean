/- Merged out of 6 texts, in build order: Pmath, Ponce, Pwant, Pq, Pref1, Pref2. -/
import Derived.Test.YtkdidinekoaobaaGreatDoorMb
import Derived.Test.YtkdidinekoaobaaGreatDoorNa
import Derived.Test.YtkdidinekoaobaaGreatDoorMr

/- Plain facts of publication: what Latest, Next, Upload, Fetch and Waste come to, over a remote's objects. Nothing of the program is used here. -/
namespace Go.Proofs.YtkdidinekoaobaaGreatDoor.P
open M J
set_option linter.unusedVariables false

/-- What a manifest's object must hold. -/
def Reads (b : List UInt8) (v : Int) (m : Mf) : Prop := mrd b = (m, 0) ∧ m.ver = v
/-- What a Get gives. -/
def gE (S : Rs) (n : List UInt8) : Int := errOf S (getE S.obs n)
def gB (S : Rs) (n : List UInt8) : List UInt8 := bytesIf S (getB S.obs n)
open Classical in
/-- From these names on, the first one ahead. -/
noncomputable def lat : Rs → List (List UInt8) → Rs × Mf × Int
  | S, [] => (S, noMf, 5)
  | S, n :: r =>
    if (vr n).2 = false then lat S r
    else if gE S n = 9 then (used S, noMf, 9)
    else if gE S n = 0 ∧ Reads (gB S n) (vr n).1 (mrd (gB S n)).1 then (used S, (mrd (gB S n)).1, 0)
    else lat (used S) r
noncomputable def latest (S : Rs) : Rs × Mf × Int := if far S then (used S, noMf, 9) else lat (used S) (S.obs.map Ob.nm).reverse

/-- The next manifest. -/
def nextMf (ver : Int) (l : List Sg) : Mf := ⟨IntKind.i64.wrap (ver + 1), l⟩
def putS (S : Rs) (n b : List UInt8) : Rs := takes S (newL S.obs n b)
def putE (S : Rs) (n : List UInt8) : Int := errOf S (newE S.obs n)
noncomputable def next (S : Rs) (ver : Int) (l : List Sg) : Rs × Mf × Int :=
  let m := nextMf ver l
  if right m = false then (S, noMf, 1)
  else
    let S1 := putS S (nm m.ver) (mbs m).1
    if putE S (nm m.ver) = 0 then (S1, m, 0)
    else if gE S1 (nm m.ver) = 0 ∧ gB S1 (nm m.ver) = (mbs m).1 then (used S1, m, 0)
    else (used S1, noMf, putE S (nm m.ver))

def noSg : Sg := ⟨0, 0, 0⟩
def sgOf (n : Int) (b : List UInt8) : Sg := ⟨n, b.length, sum b⟩
def upOk (n : Int) (b : List UInt8) : Prop := (0 ≤ n ∧ n ≤ 999999) ∧ b.length ≤ 1048576
instance (n : Int) (b : List UInt8) : Decidable (upOk n b) := by unfold upOk; infer_instance
def upload (S : Rs) (n : Int) (b : List UInt8) : Rs × Sg × Int :=
  if upOk n b then
    let S1 := takes S (lays S.obs (ob n) b)
    if gE S1 (ob n) ≠ 0 then (used S1, noSg, gE S1 (ob n))
    else if gB S1 (ob n) = b then (used S1, sgOf n b, 0) else (used S1, noSg, 4)
  else (S, noSg, 1)
def fetch (S : Rs) (s : Sg) : Rs × List UInt8 × Int :=
  if gE S (ob s.n) ≠ 0 then (used S, [], gE S (ob s.n))
  else if sgOf s.n (gB S (ob s.n)) = s then (used S, gB S (ob s.n), 0) else (used S, [], 4)

/-- Is a name obsolete? -/
def old (m : Mf) (n : List UInt8) : Prop := ((vr n).2 = true ∧ (vr n).1 + 1 < m.ver) ∨ ∃ k : Int, (0 ≤ k ∧ k ≤ 999999) ∧ ob k = n ∧ ∀ s ∈ m.segs, s.n ≠ k
open Classical in
noncomputable def isOld (m : Mf) (n : List UInt8) : Bool := decide (old m n)
theorem isOld_iff {m : Mf} {n : List UInt8} : isOld m n = true ↔ old m n := by unfold isOld; simp
/-- One more name, in its place. -/
noncomputable def wstep (m : Mf) (out : List (List UInt8)) (n : List UInt8) : List (List UInt8) := if isOld m n = true then (if n ∈ out then out else ins id out n) else out
noncomputable def ws (m : Mf) (names : List (List UInt8)) : List (List UInt8) := names.foldl (wstep m) []
theorem ws_snoc (m : Mf) (l : List (List UInt8)) (n : List UInt8) : ws m (l ++ [n]) = wstep m (ws m l) n := by unfold ws; rw [List.foldl_append]; rfl
theorem wstep_up {m : Mf} {out : List (List UInt8)} {n : List UInt8} (h : Up id out) : Up id (wstep m out n) := by
  unfold wstep
  split
  · split
    · exact h
    · rename_i hn
      exact up_ins h (fun c hc e => hn (by have e : c = n := e; rw [← e]; exact hc))
  · exact h
theorem wstep_mem {m : Mf} {out : List (List UInt8)} {n x : List UInt8} : x ∈ wstep m out n ↔ x ∈ out ∨ (x = n ∧ old m n) := by
  unfold wstep
  split
  · rename_i ho
    rw [isOld_iff] at ho
    split
    · rename_i hn
      constructor
      · exact Or.inl
      · rintro (h | ⟨rfl, _⟩)
        · exact h
        · exact hn
    · rw [mem_ins]
      constructor
      · rintro (h | h)
        · exact Or.inr ⟨h, ho⟩
        · exact Or.inl h
      · rintro (h | ⟨h, _⟩)
        · exact Or.inr h
        · exact Or.inl h
  · rename_i ho
    rw [isOld_iff] at ho
    constructor
    · exact Or.inl
    · rintro (h | ⟨_, h⟩)
      · exact h
      · exact absurd h ho
theorem ws_up (m : Mf) (names : List (List UInt8)) : Up id (ws m names) := by
  unfold ws
  suffices h : ∀ (l : List (List UInt8)) (out : List (List UInt8)), Up id out → Up id (l.foldl (wstep m) out) from h names [] List.Pairwise.nil
  intro l
  induction l with
  | nil => exact fun out h => h
  | cons n r ih => exact fun out h => ih _ (wstep_up h)
theorem ws_mem (m : Mf) (names : List (List UInt8)) (x : List UInt8) : x ∈ ws m names ↔ x ∈ names ∧ old m x := by
  unfold ws
  suffices h : ∀ (l : List (List UInt8)) (out : List (List UInt8)), x ∈ l.foldl (wstep m) out ↔ x ∈ out ∨ (x ∈ l ∧ old m x) by simpa using h names []
  intro l
  induction l with
  | nil => intro out; simp
  | cons n r ih =>
    intro out
    rw [List.foldl_cons, ih, wstep_mem, List.mem_cons]
    constructor
    · rintro ((h | ⟨rfl, h⟩) | ⟨h, k⟩)
      · exact Or.inl h
      · exact Or.inr ⟨Or.inl rfl, h⟩
      · exact Or.inr ⟨Or.inr h, k⟩
    · rintro (h | ⟨rfl | h, k⟩)
      · exact Or.inl (Or.inl h)
      · exact Or.inl (Or.inr ⟨rfl, k⟩)
      · exact Or.inr ⟨h, k⟩
theorem wstep_len (m : Mf) (out : List (List UInt8)) (n : List UInt8) : (wstep m out n).length ≤ out.length + 1 := by
  unfold wstep
  split
  · split
    · omega
    · rw [length_ins]; omega
  · omega
theorem ws_len (m : Mf) (names : List (List UInt8)) : (ws m names).length ≤ names.length := by
  unfold ws
  suffices h : ∀ (l : List (List UInt8)) (out : List (List UInt8)), (l.foldl (wstep m) out).length ≤ out.length + l.length by simpa using h names []
  intro l
  induction l with
  | nil => intro out; simp
  | cons n r ih =>
    intro out
    rw [List.foldl_cons, List.length_cons]
    have := ih (wstep m out n)
    have := wstep_len m out n
    omega
/-- Rows by rising names of the same names are the same. -/
theorem up_same : ∀ {a b : List (List UInt8)}, Up id a → Up id b → (∀ x, x ∈ a ↔ x ∈ b) → a = b
  | [], [], _, _, _ => rfl
  | [], y :: b, _, _, h => by have := (h y).2 (List.mem_cons_self ..); simp at this
  | x :: a, [], _, _, h => by have := (h x).1 (List.mem_cons_self ..); simp at this
  | x :: a, y :: b, ha, hb, h => by
    have hxy : x = y := by
      refine Decidable.byContradiction fun hne => ?_
      have h1 : x ∈ b := by
        rcases List.mem_cons.1 ((h x).1 (List.mem_cons_self ..)) with e | e
        · exact absurd e hne
        · exact e
      have h2 : y ∈ a := by
        rcases List.mem_cons.1 ((h y).2 (List.mem_cons_self ..)) with e | e
        · exact absurd e.symm hne
        · exact e
      have g1 : lt y x = true := up_head hb h1
      have g2 : lt x y = true := up_head ha h2
      rw [lt_asymm g1] at g2
      cases g2
    subst hxy
    congr 1
    refine up_same (up_tail ha) (up_tail hb) (fun z => ?_)
    have hza : z ∈ a → z ≠ x := fun hz e => by subst e; have : lt z z = true := up_head ha hz; rw [lt_irrefl] at this; cases this
    have hzb : z ∈ b → z ≠ x := fun hz e => by subst e; have : lt z z = true := up_head hb hz; rw [lt_irrefl] at this; cases this
    constructor
    · intro hz
      rcases List.mem_cons.1 ((h z).1 (List.mem_cons_of_mem _ hz)) with e | e
      · exact absurd e (hza hz)
      · exact e
    · intro hz
      rcases List.mem_cons.1 ((h z).2 (List.mem_cons_of_mem _ hz)) with e | e
      · exact absurd e (hzb hz)
      · exact e

/-! ### what stays small -/
def Small (k : Nat) (S : Rs) : Prop := (∀ o ∈ S.obs, o.nm.length ≤ 100 ∧ o.bt.length ≤ 1500) ∧ S.obs.length ≤ k
theorem small_used {k : Nat} {S : Rs} (h : Small k S) : Small k (used S) := h
theorem mem_lays {l : List Ob} {n b : List UInt8} {o : Ob} (h : o ∈ lays l n b) : o = ⟨n, b⟩ ∨ o ∈ l := by
  unfold lays at h
  rcases mem_ins.1 h with h | h
  · exact Or.inl h
  · exact Or.inr (mem_wo.1 h).1
theorem small_takes {k : Nat} {S : Rs} (h : Small k S) {n b : List UInt8} (hn : n.length ≤ 100) (hb : b.length ≤ 1500) : Small (k + 1) (takes S (lays S.obs n b)) := by
  unfold takes
  constructor
  · intro o ho
    dsimp only at ho
    split at ho
    · exact h.1 o ho
    · rcases mem_lays ho with rfl | ho
      · exact ⟨hn, hb⟩
      · exact h.1 o ho
  · dsimp only
    have := len_lays S.obs n b
    have := h.2
    split <;> omega
theorem small_newL {k : Nat} {S : Rs} (h : Small k S) {n b : List UInt8} (hn : n.length ≤ 100) (hb : b.length ≤ 1500) : Small (k + 1) (putS S n b) := by
  unfold putS newL
  split
  · rw [takes_same]
    exact ⟨h.1, by have := h.2; show S.obs.length ≤ _; omega⟩
  · exact small_takes h hn hb
theorem small_del {k : Nat} {S : Rs} (h : Small k S) (n : List UInt8) : Small k (takes S (wo Ob.nm S.obs n)) := by
  unfold takes
  constructor
  · intro o ho
    dsimp only at ho
    split at ho
    · exact h.1 o ho
    · exact h.1 o (mem_wo.1 ho).1
  · dsimp only
    have h1 : (wo Ob.nm S.obs n).length ≤ S.obs.length := List.length_filter_le _ _
    have := h.2
    split <;> omega
theorem lat_obs : ∀ (l : List (List UInt8)) (S : Rs), (lat S l).1.obs = S.obs ∧ S.n ≤ (lat S l).1.n ∧ (lat S l).1.n ≤ S.n + l.length
  | [], S => ⟨rfl, Int.le_refl _, by simp [lat]⟩
  | n :: r, S => by
    have hu : (used S).obs = S.obs := rfl
    have hn : (used S).n = S.n + 1 := rfl
    unfold lat
    split
    · obtain ⟨h1, h2, h3⟩ := lat_obs r S
      exact ⟨h1, h2, by rw [List.length_cons]; push_cast; omega⟩
    · split
      · exact ⟨hu, by rw [hn]; omega, by rw [hn, List.length_cons]; push_cast; omega⟩
      · split
        · exact ⟨hu, by rw [hn]; omega, by rw [hn, List.length_cons]; push_cast; omega⟩
        · obtain ⟨h1, h2, h3⟩ := lat_obs r (used S)
          exact ⟨h1.trans hu, by omega, by rw [List.length_cons]; push_cast; omega⟩
theorem latest_obs (S : Rs) : (latest S).1.obs = S.obs ∧ S.n ≤ (latest S).1.n ∧ (latest S).1.n ≤ S.n + 1 + S.obs.length := by
  unfold latest
  have hn : (used S).n = S.n + 1 := rfl
  split
  · exact ⟨rfl, by rw [hn]; omega, by rw [hn]; omega⟩
  · obtain ⟨h1, h2, h3⟩ := lat_obs (S.obs.map Ob.nm).reverse (used S)
    rw [List.length_reverse, List.length_map] at h3
    exact ⟨h1, by omega, by omega⟩
end Go.Proofs.YtkdidinekoaobaaGreatDoor.P

/- Plain facts for PublishOnce and PublishBack: versions are laid one behind the other; what was laid is there. -/
namespace Go.Proofs.YtkdidinekoaobaaGreatDoor.P
open M J
set_option linter.unusedVariables false

/-- All that is laid are versions up to m's, and m itself is laid; or nothing is. -/
def Inv (l : List Ob) (m : Mf) : Prop := (m = noMf ∧ l = []) ∨ (Right m ∧ m.wf ∧ (∃ pre, l = pre ++ [⟨nm m.ver, (mbs m).1⟩]) ∧ ∀ o ∈ l, ∃ v, (1 ≤ v ∧ v ≤ m.ver) ∧ o.nm = nm v)
theorem Inv.names {l : List Ob} {m : Mf} (h : Inv l m) : ∀ o ∈ l, ∃ v, (1 ≤ v ∧ v ≤ m.ver) ∧ o.nm = nm v := by
  rcases h with ⟨_, rfl⟩ | ⟨_, _, _, h⟩
  · intro o ho; simp at ho
  · exact h
theorem nm_inj {a b : Int} (ha : 1 ≤ a ∧ a ≤ 999999) (hb : 1 ≤ b ∧ b ≤ 999999) (h : nm a = nm b) : a = b := by
  have h1 := vr_nm ha
  rw [h, vr_nm hb] at h1
  simpa using h1.symm
theorem look_new {l : List Ob} {m : Mf} (h : Inv l m) (hm : m.ver + 1 ≤ 999999) : M.look l (nm (m.ver + 1)) = none := by
  refine List.find?_eq_none.2 fun o ho => ?_
  obtain ⟨v, hv, e⟩ := h.names o ho
  have : o.nm ≠ nm (m.ver + 1) := fun e2 => by
    have := nm_inj (by omega) (by omega) (e.symm.trans e2)
    omega
  simpa using this
theorem lays_new {l : List Ob} {m : Mf} (h : Inv l m) (hm : m.ver + 1 ≤ 999999) (b : List UInt8) : lays l (nm (m.ver + 1)) b = l ++ [⟨nm (m.ver + 1), b⟩] := by
  have hlt : ∀ o ∈ l, lt o.nm (nm (m.ver + 1)) = true := fun o ho => by
    obtain ⟨v, hv, e⟩ := h.names o ho
    rw [e, nm_lt (by omega) (by omega)]
    simp
    omega
  unfold lays
  rw [wo_id (fun o ho => lt_ne (hlt o ho))]
  unfold ins
  have h1 : l.takeWhile (fun c => lt c.nm (nm (m.ver + 1))) = l := by
    have : ∀ (l : List Ob), (∀ o ∈ l, lt o.nm (nm (m.ver + 1)) = true) → l.takeWhile (fun c => lt c.nm (nm (m.ver + 1))) = l := by
      intro l
      induction l with
      | nil => intro _; rfl
      | cons x r ih =>
        intro h
        rw [List.takeWhile_cons, if_pos (h x (List.mem_cons_self ..)), ih (fun o ho => h o (List.mem_cons_of_mem _ ho))]
    exact this l hlt
  have h2 : l.dropWhile (fun c => lt c.nm (nm (m.ver + 1))) = [] := by
    have e := List.takeWhile_append_dropWhile (p := fun c : Ob => lt c.nm (nm (m.ver + 1))) (l := l)
    rw [h1] at e
    have := congrArg List.length e
    rw [List.length_append] at this
    exact List.eq_nil_of_length_eq_zero (by omega)
  show l.takeWhile (fun c => lt c.nm (nm (m.ver + 1))) ++ _ :: l.dropWhile (fun c => lt c.nm (nm (m.ver + 1))) = _
  rw [h1, h2]
/-- The next version of one segment. -/
def oneMf (m : Mf) (s : Sg) : Mf := ⟨m.ver + 1, [s]⟩
theorem one_right {m : Mf} {s : Sg} (hm : 0 ≤ m.ver ∧ m.ver + 1 ≤ 999999) (h1 : 0 ≤ s.n ∧ s.n ≤ 999999) (h2 : 0 ≤ s.size ∧ s.size ≤ 1048576) : Right (oneMf m s) := by
  refine ⟨by show 1 ≤ m.ver + 1 ∧ m.ver + 1 ≤ 999999; omega, by show 1 ≤ 200; omega, fun j hj s' hs' => ?_⟩
  simp only [oneMf, List.length_singleton] at hj
  obtain rfl : j = 0 := by omega
  simp only [oneMf, List.getElem?_cons_zero, Option.some.injEq] at hs'
  subst hs'
  exact ⟨h1, h2, fun h => by omega⟩
theorem inv_new {l : List Ob} {m : Mf} {s : Sg} (h : Inv l m) (hm : 0 ≤ m.ver ∧ m.ver + 1 ≤ 999999) (h1 : 0 ≤ s.n ∧ s.n ≤ 999999) (h2 : 0 ≤ s.size ∧ s.size ≤ 1048576) (h3 : s.sum < 4294967296) : Inv (l ++ [⟨nm (m.ver + 1), (mbs (oneMf m s)).1⟩]) (oneMf m s) := by
  refine Or.inr ⟨one_right hm h1 h2, fun t ht => ?_, ⟨l, rfl⟩, fun o ho => ?_⟩
  · simp only [oneMf, List.mem_singleton] at ht
    rw [ht]; exact h3
  · rcases List.mem_append.1 ho with ho | ho
    · obtain ⟨v, hv, e⟩ := h.names o ho
      exact ⟨v, ⟨hv.1, by show v ≤ m.ver + 1; omega⟩, e⟩
    · rw [List.mem_singleton.1 ho]
      exact ⟨m.ver + 1, ⟨by omega, Int.le_refl _⟩, rfl⟩
theorem ver_ge {l : List Ob} {m : Mf} (h : Inv l m) : 0 ≤ m.ver := by
  rcases h with ⟨rfl, _⟩ | ⟨h, _⟩
  · exact Int.le_refl _
  · have := h.1; omega

theorem fine_nil {l : List Ob} {k : Int} : fateOf ⟨l, [], k⟩ = 0 ∧ ¬ far ⟨l, [], k⟩ := by
  have : fateOf ⟨l, [], k⟩ = 0 := rfl
  exact ⟨this, by unfold far; rw [this]; omega⟩
/-- With no script, the newest manifest is found at once. -/
theorem latest_inv {l : List Ob} {m : Mf} (h : Inv l m) (k : Int) (hu : Up Ob.nm l) :
    latest ⟨l, [], k⟩ = if m.ver = 0 then (⟨l, [], k + 1⟩, noMf, 5) else (⟨l, [], k + 2⟩, m, 0) := by
  have hf := fine_nil (l := l) (k := k)
  have hu1 : used ⟨l, [], k⟩ = ⟨l, [], k + 1⟩ := rfl
  unfold latest
  rw [if_neg hf.2, hu1]
  rcases h with ⟨rfl, rfl⟩ | ⟨hr, hw, ⟨pre, rfl⟩, _⟩
  · rw [if_pos (by rfl)]
    rfl
  · rw [if_neg (by have := hr.1; omega), List.map_append, List.reverse_append]
    have hlk : M.look (pre ++ [⟨nm m.ver, (mbs m).1⟩]) (nm m.ver) = some ⟨nm m.ver, (mbs m).1⟩ := look_of (f := ⟨nm m.ver, (mbs m).1⟩) hu (by simp)
    have hf1 := fine_nil (l := pre ++ [⟨nm m.ver, (mbs m).1⟩]) (k := k + 1)
    have e1 : gE ⟨pre ++ [⟨nm m.ver, (mbs m).1⟩], [], k + 1⟩ (nm m.ver) = 0 := by
      unfold gE
      rw [err_fine _ hf1.2]
      show getE _ _ = 0
      unfold getE
      rw [hlk]
    have e2 : gB ⟨pre ++ [⟨nm m.ver, (mbs m).1⟩], [], k + 1⟩ (nm m.ver) = (mbs m).1 := by
      unfold gB
      rw [bytes_fine _ hf1.2]
      show getB _ _ = _
      unfold getB
      rw [hlk]
    have e3 : mrd (mbs m).1 = (m, 0) := mrd_yes ⟨hr, hw, by rw [mbs_yes hr]⟩
    show lat _ (nm m.ver :: (pre.map Ob.nm).reverse) = _
    unfold lat
    rw [vr_nm hr.1, if_neg (by simp), e1, if_neg (by omega), e2, e3, if_pos ⟨rfl, by rw [e3], rfl⟩]
    show ((⟨_, _, k + 1 + 1⟩ : Rs), m, (0 : Int)) = _
    rw [show k + 1 + 1 = k + 2 by omega]
    rfl

/-- What Next comes to, whatever the fates. -/
theorem next_inv {S : Rs} {m : Mf} {s : Sg} (h : Inv S.obs m) (hm : m.ver ≤ 900000) (h1 : 0 ≤ s.n ∧ s.n ≤ 999999) (h2 : 0 ≤ s.size ∧ s.size ≤ 1048576) (h3 : s.sum < 4294967296) :
    ((next S m.ver [s]).2 = (oneMf m s, 0) ∧ Inv (next S m.ver [s]).1.obs (oneMf m s)) ∨ ((next S m.ver [s]).2 = (noMf, 9) ∧ (Inv (next S m.ver [s]).1.obs (oneMf m s) ∨ Inv (next S m.ver [s]).1.obs m)) := by
  have h0 := ver_ge h
  have hn : nextMf m.ver [s] = oneMf m s := by
    unfold nextMf oneMf
    rw [IntWalk.i64_in _ ⟨by omega, by omega⟩]
  have hr := one_right (m := m) (s := s) (by omega) h1 h2
  have hlk := look_new h (by omega)
  have hly := lays_new h (by omega) (mbs (oneMf m s)).1
  have hi := inv_new h (by omega) h1 h2 h3
  have hne : newE S.obs (nm (m.ver + 1)) = 0 := by unfold newE; rw [hlk]
  have hnl : newL S.obs (nm (m.ver + 1)) (mbs (oneMf m s)).1 = S.obs ++ [⟨nm (m.ver + 1), (mbs (oneMf m s)).1⟩] := by unfold newL; rw [hlk]; exact hly
  have hv : (oneMf m s).ver = m.ver + 1 := rfl
  unfold next
  simp only [hn, right_iff.2 hr, Bool.true_eq_false, if_false, hv]
  unfold putE
  rw [hne]
  rcases fate_three S with hk | hk | hk
  · have hS1 : (putS S (nm (m.ver + 1)) (mbs (oneMf m s)).1) = used S := takes_lost _ hk
    rw [err_far _ (Or.inl hk), hS1, if_neg (by decide)]
    have hg : gE (used S) (nm (m.ver + 1)) ≠ 0 := by
      unfold gE errOf
      split
      · omega
      · show getE S.obs _ ≠ 0
        unfold getE
        rw [hlk]
        show (5 : Int) ≠ 0
        decide
    rw [if_neg (fun hh => hg hh.1)]
    exact Or.inr ⟨rfl, Or.inr h⟩
  · have hS1 : (putS S (nm (m.ver + 1)) (mbs (oneMf m s)).1).obs = S.obs ++ [⟨nm (m.ver + 1), (mbs (oneMf m s)).1⟩] := by
      unfold putS
      rw [takes_other _ (by rw [hk]; omega), hnl]
    rw [err_far _ (Or.inr hk), if_neg (by decide)]
    split
    · refine Or.inl ⟨rfl, ?_⟩
      show Inv (putS S _ _).obs _
      rw [hS1]; exact hi
    · refine Or.inr ⟨rfl, Or.inl ?_⟩
      show Inv (putS S _ _).obs _
      rw [hS1]; exact hi
  · have hS1 : (putS S (nm (m.ver + 1)) (mbs (oneMf m s)).1).obs = S.obs ++ [⟨nm (m.ver + 1), (mbs (oneMf m s)).1⟩] := by
      unfold putS
      rw [takes_other _ hk.1, hnl]
    rw [err_fine _ (by unfold far; omega), if_pos rfl]
    exact Or.inl ⟨rfl, by rw [hS1]; exact hi⟩

/-- What Upload told is there. -/
theorem upload_back {S : Rs} {n : Int} {b : List UInt8} (hn : 0 ≤ n ∧ n ≤ 999999) (he : (upload S n b).2.2 = 0) (hb : b.length ≤ 1048576) (k : Int) :
    (upload S n b).2.1 = sgOf n b ∧ fetch ⟨(upload S n b).1.obs, [], k⟩ (sgOf n b) = (⟨(upload S n b).1.obs, [], k + 1⟩, b, 0) := by
  have hok : upOk n b := ⟨hn, hb⟩
  unfold upload at he ⊢
  rw [if_pos hok] at he ⊢
  by_cases h1 : gE (takes S (lays S.obs (ob n) b)) (ob n) = 0
  · by_cases h2 : gB (takes S (lays S.obs (ob n) b)) (ob n) = b
    · simp only [h1, ne_eq, not_true, if_false, h2, if_true] at he ⊢
      refine ⟨trivial, ?_⟩
      have hobs : (used (takes S (lays S.obs (ob n) b))).obs = (takes S (lays S.obs (ob n) b)).obs := rfl
      rw [hobs]
      generalize takes S (lays S.obs (ob n) b) = S1 at *
      have hnf : ¬ far S1 := fun hf => by unfold gE at h1; rw [err_far _ hf] at h1; omega
      unfold gE at h1
      unfold gB at h2
      rw [err_fine _ hnf] at h1
      rw [bytes_fine _ hnf] at h2
      have hf := fine_nil (l := S1.obs) (k := k)
      have g1 : gE ⟨S1.obs, [], k⟩ (ob n) = 0 := by unfold gE; rw [err_fine _ hf.2]; exact h1
      have g2 : gB ⟨S1.obs, [], k⟩ (ob n) = b := by unfold gB; rw [bytes_fine _ hf.2]; exact h2
      unfold fetch
      rw [show (sgOf n b).n = n from rfl, g1, if_neg (by simp), g2, if_pos rfl]
      rfl
    · simp only [h1, ne_eq, not_true, if_false, h2] at he
      omega
  · simp only [ne_eq, h1, not_false_iff, if_true] at he
end Go.Proofs.YtkdidinekoaobaaGreatDoor.P

/- What is asked of the program's publish. -/
namespace Go.Proofs.YtkdidinekoaobaaGreatDoor.P
open Go.RowKit M J
set_option linter.unusedVariables false

/-- A row that is new, and not the remote's. -/
def NewRow (w : World) (F : Nat → Prop) (a : Option Addr) : Prop := ∀ x, a = some x → w.heap.size ≤ x.block ∧ ¬ F x.block
/-- .. or the one that was given. -/
def NewOr (w : World) (F : Nat → Prop) (s a : Option Addr) : Prop := ∀ x, a = some x → (w.heap.size ≤ x.block ∧ ¬ F x.block) ∨ ∃ y, s = some y ∧ y.block = x.block
def sgV (s : Sg) : Value := .agg #[.int .i64 s.n, .int .i64 s.size, .int .u32 (s.sum : Nat)]
/-- What a step leaves of the program's remote. -/
def Goes (B pb : Nat) (F : Nat → Prop) (S' : Rs) (w w' : World) (F' : Nat → Prop) : Prop := RkS B w' pb F' S' ∧ (∀ k, F' k → F k ∨ w.heap.size ≤ k) ∧ Turn F w w'
def Room (S : Rs) : Prop := S.n < 900000000000 ∧ Small 1000 S
/-- The library's variables lie ahead of the remote. -/
structure Vb (B : Nat) (w : World) : Prop where
  vt : Vt w
  tab : 2 < B
  syn : 0 < B
  rng : 1 < B
theorem vb_of {B : Nat} {w W : World} (h : Vt w) (hB : w.heap.size ≤ B) (hb : Below w.heap.size w W) : Vb B W := by
  obtain ⟨t, fz, hc⟩ := h.tab
  obtain ⟨_, _, h2⟩ := h.syn
  obtain ⟨_, _, h3⟩ := h.rng
  exact ⟨h.later hb, Nat.lt_of_lt_of_le (Array.getElem?_eq_some_iff.1 hc).1 hB, Nat.lt_of_lt_of_le (Lib.lt_of_cell h2) hB, Nat.lt_of_lt_of_le (Lib.lt_of_cell h3) hB⟩
/-- What turns nothing below leaves them. -/
theorem Vb.low {B : Nat} {w W : World} (h : Vb B w) (hb : Below B w W) : Vb B W := by
  obtain ⟨t, fz, hc⟩ := h.vt.tab
  refine ⟨⟨⟨t, fz, (hb.block _ h.tab).trans hc⟩, ?_, ?_⟩, h.tab, h.syn, h.rng⟩
  · obtain ⟨te, pe, hc⟩ := h.vt.syn
    exact ⟨te, pe, (hb.cell (p := ⟨_, 0, none⟩) h.syn).trans hc⟩
  · obtain ⟨te, pe, hc⟩ := h.vt.rng
    exact ⟨te, pe, (hb.cell (p := ⟨_, 0, none⟩) h.rng).trans hc⟩
theorem Vb.later {B : Nat} {w W : World} (h : Vb B w) (hb : Below w.heap.size w W) : Vb B W := ⟨h.vt.later hb, h.tab, h.syn, h.rng⟩
structure PubC : Prop where
  latest : ∀ {B pb F S w}, RkS B w pb F S → Vb B w → Room S → Calls Tryz.prog 9 #[.pointer (some ⟨pb, 0, none⟩)] w fun e w' =>
    ∃ F' a cap, e = .returned (.tuple #[mfV (latest S).2.1.ver a (latest S).2.1.segs.length cap, .int .i64 (latest S).2.2]) ∧ SgsIn w' a (latest S).2.1.segs ∧ NewRow w F' a ∧ Goes B pb F (latest S).1 w w' F'
  next : ∀ {B pb F S w} {m : Mf} {ma mc} {l : List Sg} {a c}, RkS B w pb F S → Vb B w → Room S → SgsIn w ma m.segs → SgsIn w a l → (∀ x, a = some x → x.block < w.heap.size ∧ ¬ F x.block) → m.fit → (∀ s ∈ l, s.fit) → m.segs.length ≤ 300 → l.length ≤ 100 →
    Calls Tryz.prog 13 #[.pointer (some ⟨pb, 0, none⟩), mfV m.ver ma m.segs.length mc, .slice a l.length c] w fun e w' =>
    ∃ F' a' cap, e = .returned (.tuple #[mfV (next S m.ver l).2.1.ver a' (next S m.ver l).2.1.segs.length cap, .int .i64 (next S m.ver l).2.2]) ∧ SgsIn w' a' (next S m.ver l).2.1.segs ∧ NewOr w F' a a' ∧ Goes B pb F (next S m.ver l).1 w w' F'
  upload : ∀ {B pb F S w} {n : Int} {b : List UInt8}, RkS B w pb F S → Vb B w → Room S → i64 n → b.length ≤ 1500 → Calls Tryz.prog 16 #[.pointer (some ⟨pb, 0, none⟩), .int .i64 n, .string (bs b)] w fun e w' =>
    ∃ F', e = .returned (.tuple #[sgV (upload S n b).2.1, .int .i64 (upload S n b).2.2]) ∧ Goes B pb F (upload S n b).1 w w' F'
  fetch : ∀ {B pb F S w} {s : Sg}, RkS B w pb F S → Vb B w → Room S → s.fit → Calls Tryz.prog 18 #[.pointer (some ⟨pb, 0, none⟩), sgV s] w fun e w' =>
    ∃ F', e = .returned (.tuple #[.string (bs (fetch S s).2.1), .int .i64 (fetch S s).2.2]) ∧ Goes B pb F (fetch S s).1 w w' F'
  waste : ∀ {w na nc} {names : List (List UInt8)} {m : Mf} {ma mc}, Vt w → Vals w na (strs names) → SgsIn w ma m.segs → m.fit → names.length ≤ 100 → (∀ n ∈ names, n.length ≤ 100) → m.segs.length ≤ 100 →
    Calls Tryz.prog 27 #[.slice na names.length nc, mfV m.ver ma m.segs.length mc] w fun e w' => ∃ oa oc, e = .returned (.slice oa (ws m names).length oc) ∧ Vals w' oa (strs (ws m names)) ∧ Below w.heap.size w w'
end Go.Proofs.YtkdidinekoaobaaGreatDoor.P

/- The document's remote inside a walk: what has been called since, from a world on. -/
namespace Go.Proofs.YtkdidinekoaobaaGreatDoor.P
open Go.RowKit M J
set_option linter.unusedVariables false

section
variable {B qb : Nat} {lv sv : Value} {S S' : Rs} {w w0 w1 W W' : World} {n b : List UInt8}
theorem q_below (h : RfStep B qb lv sv w1 S W) (t : Below W.heap.size W W') : RfStep B qb lv sv w1 S W' := by
  obtain ⟨lv', sv', h1, h2, h3⟩ := h
  exact ⟨lv', sv', h1.below t, h2, h3.trans (Turn.of_below _ t (Nat.le_refl _))⟩
theorem q_size (h : RfStep B qb lv sv w1 S W) : w1.heap.size ≤ W.heap.size := by
  obtain ⟨lv', sv', _, _, h3⟩ := h
  exact h3.size
theorem q_block (h : RfStep B qb lv sv w1 S W) {k : Nat} (hk : k < w1.heap.size) (hq : k ≠ qb) : W.heap[k]? = w1.heap[k]? := by
  obtain ⟨lv', sv', _, _, h3⟩ := h
  exact h3.block k hk hq
/-- One more call. -/
theorem q_then (h : RfStep B qb lv sv w1 S W) (k : ∀ lv' sv', Rf B W qb lv' sv' S → RfStep B qb lv' sv' W S' W') : RfStep B qb lv sv w1 S' W' ∧ Turn (fun k => k = qb) W W' := by
  refine ⟨h.trans k, ?_⟩
  obtain ⟨lv', sv', h1, _, _⟩ := h
  obtain ⟨_, _, _, _, t⟩ := k lv' sv' h1
  exact t
theorem q_get (h : RfStep B qb lv sv w1 S W) (hc : S.n < 1000000000000) (hf : S.obs.length < 1000000000) :
    Calls Tryz.prog 35 #[.pointer (some ⟨qb, 0, none⟩), .string (bs n)] W fun e w' => e = .returned (.tuple #[.string (bs (gB S n)), .int .i64 (gE S n)]) ∧ RfStep B qb lv sv w1 (used S) w' ∧ Turn (fun k => k = qb) W w' := by
  obtain ⟨lv', sv', h1, h2, h3⟩ := h
  refine (refget_any h1 hc hf).mono fun e w' hp => ⟨hp.1, ?_⟩
  exact q_then ⟨lv', sv', h1, h2, h3⟩ (fun l s hs => by
    obtain ⟨rfl, rfl⟩ : l = lv' ∧ s = sv' := by
      have e := hs.blk.symm.trans h1.blk
      simp only [Option.some.injEq, Obj.cells.injEq, Array.mk.injEq, List.cons.injEq] at e
      exact ⟨e.1.1, e.1.2.1⟩
    exact hp.2)
theorem q_put (h : RfStep B qb lv sv w1 S W) (hc : S.n < 1000000000000) (hf : S.obs.length < 1000000000) (hn : n.length ≤ 9223372036854775807) :
    Calls Tryz.prog 22 #[.pointer (some ⟨qb, 0, none⟩), .string (bs n), .string (bs b)] W fun e w' => e = .returned (.int .i64 (errOf S 0)) ∧ RfStep B qb lv sv w1 (takes S (lays S.obs n b)) w' ∧ Turn (fun k => k = qb) W w' := by
  obtain ⟨lv', sv', h1, h2, h3⟩ := h
  refine (M.refput_any h1 hc hf hn).mono fun e w' hp => ⟨hp.1, ?_⟩
  exact q_then ⟨lv', sv', h1, h2, h3⟩ (fun l s hs => by
    obtain ⟨rfl, rfl⟩ : l = lv' ∧ s = sv' := by
      have e := hs.blk.symm.trans h1.blk
      simp only [Option.some.injEq, Obj.cells.injEq, Array.mk.injEq, List.cons.injEq] at e
      exact ⟨e.1.1, e.1.2.1⟩
    exact hp.2)
theorem q_putNew (h : RfStep B qb lv sv w1 S W) (hc : S.n < 1000000000000) (hf : S.obs.length < 1000000000) (hn : n.length ≤ 9223372036854775807) :
    Calls Tryz.prog 42 #[.pointer (some ⟨qb, 0, none⟩), .string (bs n), .string (bs b)] W fun e w' => e = .returned (.int .i64 (putE S n)) ∧ RfStep B qb lv sv w1 (putS S n b) w' ∧ Turn (fun k => k = qb) W w' := by
  obtain ⟨lv', sv', h1, h2, h3⟩ := h
  refine (refputNew_any h1 hc hf hn).mono fun e w' hp => ⟨hp.1, ?_⟩
  exact q_then ⟨lv', sv', h1, h2, h3⟩ (fun l s hs => by
    obtain ⟨rfl, rfl⟩ : l = lv' ∧ s = sv' := by
      have e := hs.blk.symm.trans h1.blk
      simp only [Option.some.injEq, Obj.cells.injEq, Array.mk.injEq, List.cons.injEq] at e
      exact ⟨e.1.1, e.1.2.1⟩
    exact hp.2)
theorem q_list (h : RfStep B qb lv sv w1 S W) (hc : S.n < 1000000000000) (hf : S.obs.length < 1000000000) :
    Calls Tryz.prog 33 #[.pointer (some ⟨qb, 0, none⟩)] W fun e w' => (∃ va vc, e = .returned (.tuple #[.slice va (namesIf S).length vc, .int .i64 (errOf S 0)]) ∧ Names W w' (.slice va (namesIf S).length vc) (namesIf S)) ∧ RfStep B qb lv sv w1 (used S) w' ∧ Turn (fun k => k = qb) W w' := by
  obtain ⟨lv', sv', h1, h2, h3⟩ := h
  refine (reflist_any h1 hc hf).mono fun e w' hp => ?_
  obtain ⟨va, vc, e1, e2, e3⟩ := hp
  refine ⟨⟨va, vc, e1, e2⟩, ?_⟩
  exact q_then ⟨lv', sv', h1, h2, h3⟩ (fun l s hs => by
    obtain ⟨rfl, rfl⟩ : l = lv' ∧ s = sv' := by
      have e := hs.blk.symm.trans h1.blk
      simp only [Option.some.injEq, Obj.cells.injEq, Array.mk.injEq, List.cons.injEq] at e
      exact ⟨e.1.1, e.1.2.1⟩
    exact e3)
/-- The walk began at w0; what it made ahead of its first call may be stored into. -/
theorem q_end (h : Rf B w0 qb lv sv S) (hb : Below w0.heap.size w0 w1) (hz : RfStep B qb lv sv w1 S' W) (t : Turn (fun k => w0.heap.size ≤ k ∧ k < w1.heap.size) W W') : RfStep B qb lv sv w0 S' W' := by
  obtain ⟨lv', sv', h1, h2, h3⟩ := hz
  have hz0 := hb.size
  refine ⟨lv', sv', h1.kept t (fun k hk hf hg => ?_), fun k hk => ?_, ?_⟩
  · rcases h2 k hf with e | e
    · have := (h.lt e).2; omega
    · omega
  · rcases h2 k hk with e | e
    · exact Or.inl e
    · exact Or.inr (Nat.le_trans hz0 e)
  · exact ⟨t.os.trans (h3.os.trans hb.os), t.tape.trans (h3.tape.trans hb.tape), t.output.trans (h3.output.trans hb.output), Nat.le_trans hz0 (Nat.le_trans h3.size t.size), fun k hk hq => by
      rw [t.block k (by have := h3.size; omega) (fun hg => by omega), h3.block k (by omega) hq, hb.block k hk]⟩
theorem q_start (h : Rf B w0 qb lv sv S) (hb : Below w0.heap.size w0 w1) : RfStep B qb lv sv w1 S w1 := RfStep.same (h.below hb)
end
end Go.Proofs.YtkdidinekoaobaaGreatDoor.P

/- The document's Fetch and Upload. -/
namespace Go.Proofs.YtkdidinekoaobaaGreatDoor.P
open Go.RowKit M J
set_option linter.unusedVariables false
set_option linter.unusedSimpArgs false

theorem row3_set {w : World} {q : Nat} {c0 c1 c2 : Value} {T : TypeId} (h : w.heap[q]? = some (.cells #[c0, c1, c2] T (0, 0))) (v0 v1 v2 : Value) :
    w.cell? ⟨q, 0, none⟩ = some c0 ∧ (w.setCell ⟨q, 0, none⟩ v0).cell? ⟨q, 1, none⟩ = some c1 ∧ ((w.setCell ⟨q, 0, none⟩ v0).setCell ⟨q, 1, none⟩ v1).cell? ⟨q, 2, none⟩ = some c2 ∧
    (∀ t, w.frozen? ⟨q, t, none⟩ = false) ∧ (((w.setCell ⟨q, 0, none⟩ v0).setCell ⟨q, 1, none⟩ v1).setCell ⟨q, 2, none⟩ v2).heap[q]? = some (.cells #[v0, v1, v2] T (0, 0)) := by
  have h1 := heap_setCell_same w q 0 _ _ v0 h
  have h2 := heap_setCell_same _ q 1 _ _ v1 h1
  have h3 := heap_setCell_same _ q 2 _ _ v2 h2
  exact ⟨by simpa using cell_of_row w q 0 _ _ (0, 0) h, by simpa using cell_of_row _ q 1 _ _ (0, 0) h1, by simpa using cell_of_row _ q 2 _ _ (0, 0) h2, fun t => by simp only [World.frozen?, h]; simp, h3⟩
theorem row3_cells {w : World} {q : Nat} {c0 c1 c2 : Value} {T : TypeId} (h : w.heap[q]? = some (.cells #[c0, c1, c2] T (0, 0))) : w.cell? ⟨q, 0, none⟩ = some c0 ∧ w.cell? ⟨q, 1, none⟩ = some c1 ∧ w.cell? ⟨q, 2, none⟩ = some c2 :=
  ⟨by simpa using cell_of_row w q 0 _ _ (0, 0) h, by simpa using cell_of_row w q 1 _ _ (0, 0) h, by simpa using cell_of_row w q 2 _ _ (0, 0) h⟩
theorem turn3 {w : World} {q B C : Nat} (h : B ≤ q ∧ q < C) (v0 v1 v2 : Value) : Turn (fun k => B ≤ k ∧ k < C) w (((w.setCell ⟨q, 0, none⟩ v0).setCell ⟨q, 1, none⟩ v1).setCell ⟨q, 2, none⟩ v2) :=
  (((Turn.refl _ w).setCell (p := ⟨q, 0, none⟩) h v0).setCell (p := ⟨q, 1, none⟩) h v1).setCell (p := ⟨q, 2, none⟩) h v2

theorem gB_len {S : Rs} (h : Small 1000 S) (n : List UInt8) : (gB S n).length ≤ 1500 := by
  unfold gB bytesIf getB
  split
  · simp
  · cases hl : M.look S.obs n with
    | none => simp
    | some o => exact (h.1 o (look_mem hl).1).2
theorem sg_dec (n : Int) (b : List UInt8) (s : Sg) : decide (sgOf n b = s) = ((n == s.n) && ((b.length : Int) == s.size) && (((sum b : Nat) : Int) == ((s.sum : Nat) : Int))) := by
  obtain ⟨a, z, c⟩ := s
  unfold sgOf
  by_cases h : n = a ∧ (b.length : Int) = z ∧ sum b = c
  · obtain ⟨rfl, rfl, rfl⟩ := h
    simp
  · rw [decide_eq_false (fun e => h (by injection e with e1 e2 e3; exact ⟨e1, e2, e3⟩))]
    symm
    rw [Bool.eq_false_iff]
    intro hh
    simp only [Bool.and_eq_true, beq_iff_eq] at hh
    exact h ⟨hh.1.1, hh.1.2, by have := hh.2; omega⟩

set_option maxRecDepth 100000 in
set_option maxHeartbeats 2000000 in
theorem reffetch_any {B qb : Nat} {lv sv : Value} {S : Rs} {w : World} {s : Sg} (h : Rf B w qb lv sv S) (hS : Room S) (hf : s.fit) :
    Calls Tryz.prog 19 #[.pointer (some ⟨qb, 0, none⟩), sgV s] w fun e w' => e = .returned (.tuple #[.string (bs (fetch S s).2.1), .int .i64 (fetch S s).2.2]) ∧ RfStep B qb lv sv w (fetch S s).1 w' := by
  have hql := (h.lt (Or.inl rfl)).2
  have hb0 : Below w.heap.size w (w.alloc (.cells #[.int .i64 s.n, .int .i64 s.size, .int .u32 (s.sum : Nat)] 54)) := (Below.refl _ _).alloc (Nat.le_refl _) _
  have HN := Lib.hid (heap_alloc_new w (.cells #[.int .i64 s.n, .int .i64 s.size, .int .u32 (s.sum : Nat)] 54))
  have HOB := Lib.hid (fun W => refobject_any s.n W hf.1.1 hf.1.2)
  have HQ := Lib.hid (fun W h => q_get (S := S) (n := ob s.n) (W := W) (B := B) (qb := qb) (lv := lv) (sv := sv) (w1 := w.alloc (.cells #[.int .i64 s.n, .int .i64 s.size, .int .u32 (s.sum : Nat)] 54)) h (by have := hS.1; omega) (by have := hS.2.2; omega))
  have H0 := Lib.hid (q_start h hb0)
  have HB0 := Lib.hid hb0
  have HR := Lib.hid h
  have hgl := gB_len hS.2 (ob s.n)
  have HOF := Lib.hid (fun W => refof_any s.n (bs (gB S (ob s.n))) W (by rw [bs_size]; omega))
  rw [bs_list, show ((bs (gB S (ob s.n))).size : Int) = ((gB S (ob s.n)).length : Int) by rw [bs_size]] at HOF
  have hlt : w.heap.size < (w.alloc (.cells #[.int .i64 s.n, .int .i64 s.size, .int .u32 (s.sum : Nat)] 54)).heap.size := by simp
  have hft : fetch S s = if gE S (ob s.n) ≠ 0 then (used S, [], gE S (ob s.n)) else if sgOf s.n (gB S (ob s.n)) = s then (used S, gB S (ob s.n), 0) else (used S, [], 4) := rfl
  rw [hft]
  clear hb0 hS hf h hgl hft
  unfold sgV
  have hne : qb ≠ w.heap.size := by omega
  obtain ⟨sn, sz, sx⟩ := s
  simp only at *
  have hsg : sgOf sn (gB S (ob sn)) = ⟨sn, ((gB S (ob sn)).length : Nat), sum (gB S (ob sn))⟩ := rfl
  rw [hsg]
  have y0 : (sn == sn) = true := by simp
  generalize hos : bs (ob sn) = O at *
  generalize hg : gE S (ob sn) = g at *
  by_cases h1 : g = 0
  · subst h1
    rw [if_neg (by simp)]
    generalize gB S (ob sn) = c at *
    by_cases h2 : (c.length : Int) = sz
    · subst h2
      have y1 : ((c.length : Int) == (c.length : Int)) = true := by simp
      by_cases h3 : sum c = sx
      · subst h3
        rw [if_pos rfl]
        have y2 : (((sum c : Nat) : Int) == ((sum c : Nat) : Int)) = true := by simp
        generalize ((sum c : Nat) : Int) = cs at *
        generalize (c.length : Int) = cl at *
        go_enter Tryz.func19, Tryz.ntmps19
        go_wp2_with fail
        generalize w.alloc _ = w1 at *
        refine (HOB.out _).mono ?_
        rintro e w2 ⟨rfl, b2⟩
        go_wp2_with fail
        refine (HQ.out _ (q_below H0.out b2)).mono ?_
        rintro e w3 ⟨rfl, q3, t3⟩
        have hn3 : w3.heap[w.heap.size]? = _ := (q_block q3 hlt hne.symm).trans HN.out
        have hl3 : w.heap.size < w3.heap.size := (Array.getElem?_eq_some_iff.1 hn3).1
        obtain ⟨d0, d1, d2⟩ := row3_cells hn3
        have m0 : ∀ W, Old w3 W → W.cell? ⟨w.heap.size, 0, none⟩ = _ := fun W hW => (Below.cell (p := ⟨w.heap.size, 0, none⟩) hW hl3).trans d0
        have m1 : ∀ W, Old w3 W → W.cell? ⟨w.heap.size, 1, none⟩ = _ := fun W hW => (Below.cell (p := ⟨w.heap.size, 1, none⟩) hW hl3).trans d1
        have m2 : ∀ W, Old w3 W → W.cell? ⟨w.heap.size, 2, none⟩ = _ := fun W hW => (Below.cell (p := ⟨w.heap.size, 2, none⟩) hW hl3).trans d2
        have K0 := Old.refl w3
        have Q3 := Lib.hid q3
        clear hn3 d0 d1 d2 q3 t3 b2
        go_wp2_with fail
        go_region_held3 (fun W => Old w3 W) (first | assumption | exact K0 | exact K0.drew | exact Old.drew ‹_›)
          ((go_at_call 48
            (with_reducible refine (HOF.out _).mono ?_)
            rintro e8 w8 ⟨rfl, hb8⟩
            have hO8 : Old w3 w8 := Old.below (by first | assumption | exact K0 | exact K0.drew | exact Old.drew ‹_›) hb8))
        all_goals
          have HQF := Lib.hid (q_end HR.out HB0.out (q_below Q3.out hO8) (Turn.refl _ _))
          clear hO8 K0 m0 m1 m2
          go_wp2_with fail
          go_ret2
          exact ⟨rfl, HQF.out⟩
      · rw [if_neg (fun e => h3 (by injection e))]
        have y2 : (((sum c : Nat) : Int) == ((sx : Nat) : Int)) = false := beq_eq_false_iff_ne.2 (fun e => h3 (by omega))
        generalize ((sum c : Nat) : Int) = cs at *
        generalize ((sx : Nat) : Int) = cx at *
        generalize (c.length : Int) = cl at *
        go_enter Tryz.func19, Tryz.ntmps19
        go_wp2_with fail
        generalize w.alloc _ = w1 at *
        refine (HOB.out _).mono ?_
        rintro e w2 ⟨rfl, b2⟩
        go_wp2_with fail
        refine (HQ.out _ (q_below H0.out b2)).mono ?_
        rintro e w3 ⟨rfl, q3, t3⟩
        have hn3 : w3.heap[w.heap.size]? = _ := (q_block q3 hlt hne.symm).trans HN.out
        have hl3 : w.heap.size < w3.heap.size := (Array.getElem?_eq_some_iff.1 hn3).1
        obtain ⟨d0, d1, d2⟩ := row3_cells hn3
        have m0 : ∀ W, Old w3 W → W.cell? ⟨w.heap.size, 0, none⟩ = _ := fun W hW => (Below.cell (p := ⟨w.heap.size, 0, none⟩) hW hl3).trans d0
        have m1 : ∀ W, Old w3 W → W.cell? ⟨w.heap.size, 1, none⟩ = _ := fun W hW => (Below.cell (p := ⟨w.heap.size, 1, none⟩) hW hl3).trans d1
        have m2 : ∀ W, Old w3 W → W.cell? ⟨w.heap.size, 2, none⟩ = _ := fun W hW => (Below.cell (p := ⟨w.heap.size, 2, none⟩) hW hl3).trans d2
        have K0 := Old.refl w3
        have Q3 := Lib.hid q3
        clear hn3 d0 d1 d2 q3 t3 b2
        go_wp2_with fail
        go_region_held3 (fun W => Old w3 W) (first | assumption | exact K0 | exact K0.drew | exact Old.drew ‹_›)
          ((go_at_call 48
            (with_reducible refine (HOF.out _).mono ?_)
            rintro e8 w8 ⟨rfl, hb8⟩
            have hO8 : Old w3 w8 := Old.below (by first | assumption | exact K0 | exact K0.drew | exact Old.drew ‹_›) hb8))
        all_goals
          have HQF := Lib.hid (q_end HR.out HB0.out (q_below Q3.out hO8) (Turn.refl _ _))
          clear hO8 K0 m0 m1 m2
          go_wp2_with fail
          go_ret2
          exact ⟨rfl, HQF.out⟩
    · rw [if_neg (fun e => h2 (by injection e))]
      have y1 : ((c.length : Int) == sz) = false := by simpa using h2
      generalize ((sum c : Nat) : Int) = cs at *
      generalize ((sx : Nat) : Int) = cx at *
      generalize (c.length : Int) = cl at *
      go_enter Tryz.func19, Tryz.ntmps19
      go_wp2_with fail
      generalize w.alloc _ = w1 at *
      refine (HOB.out _).mono ?_
      rintro e w2 ⟨rfl, b2⟩
      go_wp2_with fail
      refine (HQ.out _ (q_below H0.out b2)).mono ?_
      rintro e w3 ⟨rfl, q3, t3⟩
      have hn3 : w3.heap[w.heap.size]? = _ := (q_block q3 hlt hne.symm).trans HN.out
      have hl3 : w.heap.size < w3.heap.size := (Array.getElem?_eq_some_iff.1 hn3).1
      obtain ⟨d0, d1, d2⟩ := row3_cells hn3
      have m0 : ∀ W, Old w3 W → W.cell? ⟨w.heap.size, 0, none⟩ = _ := fun W hW => (Below.cell (p := ⟨w.heap.size, 0, none⟩) hW hl3).trans d0
      have m1 : ∀ W, Old w3 W → W.cell? ⟨w.heap.size, 1, none⟩ = _ := fun W hW => (Below.cell (p := ⟨w.heap.size, 1, none⟩) hW hl3).trans d1
      have m2 : ∀ W, Old w3 W → W.cell? ⟨w.heap.size, 2, none⟩ = _ := fun W hW => (Below.cell (p := ⟨w.heap.size, 2, none⟩) hW hl3).trans d2
      have K0 := Old.refl w3
      have Q3 := Lib.hid q3
      clear hn3 d0 d1 d2 q3 t3 b2
      go_wp2_with fail
      go_region_held3 (fun W => Old w3 W) (first | assumption | exact K0 | exact K0.drew | exact Old.drew ‹_›)
        ((go_at_call 48
          (with_reducible refine (HOF.out _).mono ?_)
          rintro e8 w8 ⟨rfl, hb8⟩
          have hO8 : Old w3 w8 := Old.below (by first | assumption | exact K0 | exact K0.drew | exact Old.drew ‹_›) hb8))
      all_goals
        have HQF := Lib.hid (q_end HR.out HB0.out (q_below Q3.out hO8) (Turn.refl _ _))
        clear hO8 K0 m0 m1 m2
        go_wp2_with fail
        go_ret2
        exact ⟨rfl, HQF.out⟩
  · rw [if_pos h1]
    have y1 : (g == 0) = false := by simpa using h1
    go_enter Tryz.func19, Tryz.ntmps19
    go_wp2_with fail
    generalize w.alloc _ = w1 at *
    refine (HOB.out _).mono ?_
    rintro e w2 ⟨rfl, b2⟩
    go_wp2_with fail
    refine (HQ.out _ (q_below H0.out b2)).mono ?_
    rintro e w3 ⟨rfl, q3, t3⟩
    have HQF := Lib.hid (q_end HR.out HB0.out q3 (Turn.refl _ _))
    clear q3 t3 b2
    go_wp2_with fail
    go_ret2
    exact ⟨rfl, HQF.out⟩
end Go.Proofs.YtkdidinekoaobaaGreatDoor.P

/- The document's Upload. -/
namespace Go.Proofs.YtkdidinekoaobaaGreatDoor.P
open Go.RowKit M J
set_option linter.unusedVariables false
set_option linter.unusedSimpArgs false

set_option maxRecDepth 100000 in
set_option maxHeartbeats 4000000 in
theorem refupload_any {B qb : Nat} {lv sv : Value} {S : Rs} {w : World} {n : Int} {b : List UInt8} (h : Rf B w qb lv sv S) (hS : Room S) (hn : i64 n) (hb : b.length ≤ 1500) :
    Calls Tryz.prog 17 #[.pointer (some ⟨qb, 0, none⟩), .int .i64 n, .string (bs b)] w fun e w' => e = .returned (.tuple #[sgV (upload S n b).2.1, .int .i64 (upload S n b).2.2]) ∧ RfStep B qb lv sv w (upload S n b).1 w' := by
  have hql := (h.lt (Or.inl rfl)).2
  have hb0 : Below w.heap.size w (w.alloc (.cells #[.int .i64 0, .int .i64 0, .int .u32 0] 54)) := (Below.refl _ _).alloc (Nat.le_refl _) _
  have HN := Lib.hid (heap_alloc_new w (.cells #[.int .i64 0, .int .i64 0, .int .u32 0] 54))
  have H0 := Lib.hid (q_start h hb0)
  have HB0 := Lib.hid hb0
  have HR := Lib.hid h
  have hlt : w.heap.size < (w.alloc (.cells #[.int .i64 0, .int .i64 0, .int .u32 0] 54)).heap.size := by simp
  have hne : qb ≠ w.heap.size := by omega
  have zs : ((bs b).size : Int) = (b.length : Int) := by rw [bs_size]
  have zl : ¬ (1048576 : Int) < ((bs b).size : Int) := by omega
  have HOB := Lib.hid (fun W => refobject_any n W hn.1 hn.2)
  have hol : (ob n).length ≤ 100 := by unfold ob; split <;> simp [dig_len]
  have HQP := Lib.hid (fun W h => q_put (S := S) (n := ob n) (b := b) (W := W) (B := B) (qb := qb) (lv := lv) (sv := sv) (w1 := w.alloc (.cells #[.int .i64 0, .int .i64 0, .int .u32 0] 54)) h (by have := hS.1; omega) (by have := hS.2.2; omega) (by omega))
  have hS1 := small_takes hS.2 hol hb
  have HQG := Lib.hid (fun W h => q_get (S := takes S (lays S.obs (ob n) b)) (n := ob n) (W := W) (B := B) (qb := qb) (lv := lv) (sv := sv) (w1 := w.alloc (.cells #[.int .i64 0, .int .i64 0, .int .u32 0] 54)) h (by have := hS.1; rw [n_takes]; omega) (by have := hS1.2; omega))
  have HOF := Lib.hid (fun W => refof_any n (bs b) W (by rw [bs_size]; omega))
  rw [bs_list, zs] at HOF
  unfold sgV
  by_cases hok : 0 ≤ n ∧ n ≤ 999999
  · have hup : upload S n b = if gE (takes S (lays S.obs (ob n) b)) (ob n) ≠ 0 then (used (takes S (lays S.obs (ob n) b)), noSg, gE (takes S (lays S.obs (ob n) b)) (ob n)) else if gB (takes S (lays S.obs (ob n) b)) (ob n) = b then (used (takes S (lays S.obs (ob n) b)), sgOf n b, 0) else (used (takes S (lays S.obs (ob n) b)), noSg, 4) := by
      unfold upload
      rw [if_pos (show upOk n b from ⟨hok, by omega⟩)]
    rw [hup]
    have n1 : ¬ n < 0 := by omega
    have n2 : ¬ 999999 < n := by omega
    clear hup hok hb0 hS h hS1 hol hn
    have hcmp : ((bs (gB (takes S (lays S.obs (ob n) b)) (ob n))).toList == (bs b).toList) = decide (gB (takes S (lays S.obs (ob n) b)) (ob n) = b) := by
      rw [bs_toList, bs_toList]
      by_cases h : gB (takes S (lays S.obs (ob n) b)) (ob n) = b
      · rw [decide_eq_true h]; simpa using h
      · rw [decide_eq_false h]; simpa using h
    generalize takes S (lays S.obs (ob n) b) = S1 at *
    generalize hg : gE S1 (ob n) = g at *
    generalize hos : bs (ob n) = O at *
    by_cases h1 : g = 0
    · subst h1
      rw [if_neg (by simp)]
      generalize gB S1 (ob n) = c at *
      by_cases h2 : c = b
      · rw [if_pos h2]
        rw [decide_eq_true h2] at hcmp
        clear h2
        rw [show (sgOf n b).n = n from rfl, show (sgOf n b).size = (b.length : Nat) from rfl, show (sgOf n b).sum = sum b from rfl]
        generalize bs c = Cb at *
        generalize bs b = Bb at *
        generalize ((sum b : Nat) : Int) = cs at *
        generalize (b.length : Int) = cl at *
        go_enter Tryz.func17, Tryz.ntmps17
        go_wp2_with fail
        generalize w.alloc _ = w1 at *
        refine (HOB.out _).mono ?_
        rintro e w2 ⟨rfl, b2⟩
        have q2 := q_below H0.out b2
        clear b2
        go_wp2_with fail
        refine (HQP.out _ q2).mono ?_
        rintro e w3 ⟨rfl, q3, t3⟩
        clear q2 t3
        go_wp2_with fail
        refine (HOB.out _).mono ?_
        rintro e w4 ⟨rfl, b4⟩
        have q4 := q_below q3 b4
        clear b4 q3
        go_wp2_with fail
        refine (HQG.out _ q4).mono ?_
        rintro e w5 ⟨rfl, q5, t5⟩
        clear q4 t5
        go_wp2_with fail
        refine (HOF.out _).mono ?_
        rintro e w6 ⟨rfl, b6⟩
        have q6 := q_below q5 b6
        clear b6
        have hn9 : w6.heap[w.heap.size]? = _ := (q_block q6 hlt hne.symm).trans HN.out
        obtain ⟨k0, k1, k2, kf, k3⟩ := row3_set hn9 (.int .i64 n) (.int .i64 cl) (.int .u32 cs)
        obtain ⟨j0, j1, j2⟩ := row3_cells k3
        have HQF := Lib.hid (q_end HR.out HB0.out q6 (turn3 (q := w.heap.size) (B := w.heap.size) ⟨Nat.le_refl _, hlt⟩ (.int .i64 n) (.int .i64 cl) (.int .u32 cs)))
        clear hn9 k3 q5 q6
        go_wp2_with fail
        generalize ((w6.setCell _ _).setCell _ _).setCell _ _ = wf at *
        exact bodyPost_ret (v := .tuple #[.agg #[.int .i64 n, .int .i64 cl, .int .u32 cs], .int .i64 0]) (by simp [results, Tryz.results17, go_sem, j0, j1, j2]) rfl ⟨rfl, HQF.out⟩
      · rw [if_neg h2]
        rw [decide_eq_false h2] at hcmp
        clear h2
        rw [show noSg.n = 0 from rfl, show noSg.size = 0 from rfl, show noSg.sum = 0 from rfl]
        generalize bs c = Cb at *
        generalize bs b = Bb at *
        go_enter Tryz.func17, Tryz.ntmps17
        go_wp2_with fail
        generalize w.alloc _ = w1 at *
        refine (HOB.out _).mono ?_
        rintro e w2 ⟨rfl, b2⟩
        have q2 := q_below H0.out b2
        clear b2
        go_wp2_with fail
        refine (HQP.out _ q2).mono ?_
        rintro e w3 ⟨rfl, q3, t3⟩
        clear q2 t3
        go_wp2_with fail
        refine (HOB.out _).mono ?_
        rintro e w4 ⟨rfl, b4⟩
        have q4 := q_below q3 b4
        clear b4 q3
        go_wp2_with fail
        refine (HQG.out _ q4).mono ?_
        rintro e w5 ⟨rfl, q5, t5⟩
        clear q4 t5
        have hn9 : w5.heap[w.heap.size]? = _ := (q_block q5 hlt hne.symm).trans HN.out
        obtain ⟨k0, k1, k2, kf, k3⟩ := row3_set hn9 (.int .i64 0) (.int .i64 0) (.int .u32 0)
        obtain ⟨j0, j1, j2⟩ := row3_cells k3
        have HQF := Lib.hid (q_end HR.out HB0.out q5 (turn3 (q := w.heap.size) (B := w.heap.size) ⟨Nat.le_refl _, hlt⟩ (.int .i64 0) (.int .i64 0) (.int .u32 0)))
        clear hn9 k3 q5
        go_wp2_with fail
        generalize ((w5.setCell _ _).setCell _ _).setCell _ _ = wf at *
        exact bodyPost_ret (v := .tuple #[.agg #[.int .i64 0, .int .i64 0, .int .u32 0], .int .i64 4]) (by simp [results, Tryz.results17, go_sem, j0, j1, j2]) rfl ⟨rfl, HQF.out⟩
    · rw [if_pos h1]
      rw [show noSg.n = 0 from rfl, show noSg.size = 0 from rfl, show noSg.sum = 0 from rfl]
      have y1 : (g == 0) = false := by simpa using h1
      generalize bs (gB S1 (ob n)) = Cb at *
      generalize bs b = Bb at *
      go_enter Tryz.func17, Tryz.ntmps17
      go_wp2_with fail
      generalize w.alloc _ = w1 at *
      refine (HOB.out _).mono ?_
      rintro e w2 ⟨rfl, b2⟩
      have q2 := q_below H0.out b2
      clear b2
      go_wp2_with fail
      refine (HQP.out _ q2).mono ?_
      rintro e w3 ⟨rfl, q3, t3⟩
      clear q2 t3
      go_wp2_with fail
      refine (HOB.out _).mono ?_
      rintro e w4 ⟨rfl, b4⟩
      have q4 := q_below q3 b4
      clear b4 q3
      go_wp2_with fail
      refine (HQG.out _ q4).mono ?_
      rintro e w5 ⟨rfl, q5, t5⟩
      clear q4 t5
      have hn9 : w5.heap[w.heap.size]? = _ := (q_block q5 hlt hne.symm).trans HN.out
      obtain ⟨k0, k1, k2, kf, k3⟩ := row3_set hn9 (.int .i64 0) (.int .i64 0) (.int .u32 0)
      obtain ⟨j0, j1, j2⟩ := row3_cells k3
      have HQF := Lib.hid (q_end HR.out HB0.out q5 (turn3 (q := w.heap.size) (B := w.heap.size) ⟨Nat.le_refl _, hlt⟩ (.int .i64 0) (.int .i64 0) (.int .u32 0)))
      clear hn9 k3 q5
      go_wp2_with fail
      generalize ((w5.setCell _ _).setCell _ _).setCell _ _ = wf at *
      exact bodyPost_ret (v := .tuple #[.agg #[.int .i64 0, .int .i64 0, .int .u32 0], .int .i64 g]) (by simp [results, Tryz.results17, go_sem, j0, j1, j2]) rfl ⟨rfl, HQF.out⟩
  · rw [show upload S n b = (S, noSg, 1) by unfold upload; rw [if_neg (fun hh => hok hh.1)]]
    rw [show noSg.n = 0 from rfl, show noSg.size = 0 from rfl, show noSg.sum = 0 from rfl]
    clear hb0 hS h hS1 hol hn
    generalize bs b = Bb at *
    by_cases n1 : n < 0
    · clear hok
      have hn9 : (w.alloc (.cells #[.int .i64 0, .int .i64 0, .int .u32 0] 54)).heap[w.heap.size]? = _ := HN.out
      obtain ⟨k0, k1, k2, kf, k3⟩ := row3_set hn9 (.int .i64 0) (.int .i64 0) (.int .u32 0)
      obtain ⟨j0, j1, j2⟩ := row3_cells k3
      have HQF := Lib.hid (q_end HR.out HB0.out H0.out (turn3 (q := w.heap.size) (B := w.heap.size) ⟨Nat.le_refl _, hlt⟩ (.int .i64 0) (.int .i64 0) (.int .u32 0)))
      clear hn9 k3
      go_enter Tryz.func17, Tryz.ntmps17
      generalize hW : w.alloc _ = w1 at *
      go_wp2_with fail
      generalize ((w1.setCell _ _).setCell _ _).setCell _ _ = wf at *
      exact bodyPost_ret (v := .tuple #[.agg #[.int .i64 0, .int .i64 0, .int .u32 0], .int .i64 1]) (by simp [results, Tryz.results17, go_sem, j0, j1, j2]) rfl ⟨rfl, HQF.out⟩
    · have n2 : 999999 < n := by omega
      clear hok
      have hn9 : (w.alloc (.cells #[.int .i64 0, .int .i64 0, .int .u32 0] 54)).heap[w.heap.size]? = _ := HN.out
      obtain ⟨k0, k1, k2, kf, k3⟩ := row3_set hn9 (.int .i64 0) (.int .i64 0) (.int .u32 0)
      obtain ⟨j0, j1, j2⟩ := row3_cells k3
      have HQF := Lib.hid (q_end HR.out HB0.out H0.out (turn3 (q := w.heap.size) (B := w.heap.size) ⟨Nat.le_refl _, hlt⟩ (.int .i64 0) (.int .i64 0) (.int .u32 0)))
      clear hn9 k3
      go_enter Tryz.func17, Tryz.ntmps17
      generalize hW : w.alloc _ = w1 at *
      go_wp2_with fail
      generalize ((w1.setCell _ _).setCell _ _).setCell _ _ = wf at *
      exact bodyPost_ret (v := .tuple #[.agg #[.int .i64 0, .int .i64 0, .int .u32 0], .int .i64 1]) (by simp [results, Tryz.results17, go_sem, j0, j1, j2]) rfl ⟨rfl, HQF.out⟩
end Go.Proofs.YtkdidinekoaobaaGreatDoor.P
