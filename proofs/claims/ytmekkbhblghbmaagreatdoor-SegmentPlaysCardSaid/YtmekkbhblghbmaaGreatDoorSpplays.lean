/- The law SegmentPlays, walked. -/
import Derived.Test.YtmekkbhblghbmaaGreatDoorSpsw
import Derived.Test.YtmekkbhblghbmaaGreatDoorSptail
import Derived.Deep.CutBlock
namespace Go.Proofs.YtmekkbhblghbmaaGreatDoor
open Go.RowKit
set_option linter.unusedVariables false

set_option maxHeartbeats 8000000 in
set_option maxRecDepth 1000000 in
theorem plays8_no (room : Int) (l : List Sop) (a : Option Addr) (cap : Nat) (w : World) (hT : Tb w.heap.size w) (hr1 : -9223372036854775808 ≤ room) (hr2 : room ≤ 9223372036854775807) (hlm : l.length ≤ 9223372036854775807) (hops : SopsIn w a l) (hfit : ∀ o ∈ l, o.fit) (hno : room < 0 ∨ 1048576 < room) :
    Calls Tryz.prog 3 #[.int .i64 room, .slice a l.length cap] w fun e w' => e = .returned (.bool true) ∧ Below w.heap.size w w' := by
  obtain ⟨n, hn⟩ : ∃ n, n = l.length := ⟨_, rfl⟩
  rw [← hn]
  rw [← hn] at hlm
  have HN := Lib.hid hn; have HO := Lib.hid hops; have HF := Lib.hid hfit; have HT := Lib.hid hT
  have HA := Lib.hid (awake8_any segC w hT)
  clear hn hops hfit hT
  have hnew := fun W => D.new_no room W hno hr1 hr2
  have hrnew := fun W => D.refnew_no room W hno hr1 hr2
  clear hno
  go_enter Tryz.func3, Tryz.ntmps3
  go_wp2_with fail
  refine HA.out.mono ?_
  rintro e w1 ⟨rfl, b1⟩
  try dsimp only
  go_wp2_with fail
  refine (hnew w1).mono ?_
  rintro e w2 ⟨rfl, rfl⟩
  clear hnew
  try dsimp only
  go_wp2_with fail
  refine (hrnew w1).mono ?_
  rintro e w2 ⟨rfl, rfl⟩
  clear hrnew
  try dsimp only
  go_wp2_with fail
  have B1 := Lib.hid b1
  clear b1
  go_loopg [10] 0 (fun g it wr => it = .int .i64 0 ∧ w1 = wr)
  case atStart => exact ⟨rfl, rfl⟩
  case round =>
    obtain ⟨rfl, rfl⟩ := hrel
    by_cases hn0 : 0 < n
    all_goals
      go_wp2_with fail
      go_ret
      exact ⟨rfl, B1.out⟩

set_option maxHeartbeats 8000000 in
set_option maxRecDepth 1000000 in
theorem plays8_yes (room : Int) (l : List Sop) (a : Option Addr) (cap : Nat) (w : World) (hT : Tb w.heap.size w) (hr1 : -9223372036854775808 ≤ room) (hr2 : room ≤ 9223372036854775807) (hlm : l.length ≤ 9223372036854775807) (hops : SopsIn w a l) (hfit : ∀ o ∈ l, o.fit) (h0 : 0 ≤ room) (h1 : room ≤ 1048576) :
    Calls Tryz.prog 3 #[.int .i64 room, .slice a l.length cap] w fun e w' => e = .returned (.bool true) ∧ Below w.heap.size w w' := by
  obtain ⟨n, hn⟩ : ∃ n, n = l.length := ⟨_, rfl⟩
  rw [← hn]
  rw [← hn] at hlm
  have HN := Lib.hid hn; have HO := Lib.hid hops; have HF := Lib.hid hfit; have HT := Lib.hid hT
  have HA := Lib.hid (awake8_any segC w hT)
  clear hn hops hfit hT
  go_enter Tryz.func3, Tryz.ntmps3
  go_wp2_with fail
  refine HA.out.mono ?_
  rintro e w1 ⟨rfl, b1⟩
  try dsimp only
  go_wp2_with fail
  refine (D.new_yes room w1 h0 h1).mono ?_
  rintro e w2 ⟨pb, F, rfl, h2, hF, b2⟩
  try dsimp only
  go_wp2_with fail
  refine (D.refnew_yes room w2 h0 h1).mono ?_
  rintro e w3 ⟨rfl, h3, b3⟩
  have hz01 := b1.size
  have hz12 := b2.size
  have D3 : Hid (PSame w1.heap.size pb w2.heap.size 0 w3) := by
    refine Lib.hid ⟨_, ⟨F, _, h2.kept (Turn.of_below (fun _ => False) b3 (Nat.le_refl _)) (fun _ _ _ f => f), ⟨h3.blk, D.files_base h3.row hz12, ⟨hz12, h3.base.2.1, Nat.le_trans hz12 b3.size⟩, h3.good⟩, fun k hk => ⟨fun e => by have := (h2.lt hk).2; omega, fun e => by simp [Value.ownBlock] at e⟩, fun k hk => hk.elim⟩, Nat.le_refl _⟩
  have B3 : Hid (Below w.heap.size w w3) := Lib.hid (b1.trans ((b2.mono hz01).trans (b3.mono (Nat.le_trans hz01 hz12))))
  obtain ⟨qb, hqb⟩ : ∃ qb, qb = w2.heap.size := ⟨_, rfl⟩
  rw [← hqb] at D3 ⊢
  clear h2 h3 b2 b3 b1 hF hqb hz12
  obtain ⟨m, hm⟩ : ∃ m, m = min n 50 := ⟨_, rfl⟩
  have hm80 : m ≤ 50 := by omega
  have hmn : m ≤ n := by omega
  have hmm : m = n ∨ m = 50 := by omega
  have HMM := Lib.hid hmm; clear hm hmm
  try dsimp only
  go_wp2_with fail
  go_loopg [10] m (fun g it wr => ∃ i : Nat, i + g = m ∧ it = .int .i64 i ∧ PSame w1.heap.size pb qb i wr ∧ Below w.heap.size w wr)
  case atStart => exact ⟨0, by omega, rfl, D3.out, B3.out⟩
  case round =>
    obtain ⟨i, hi, rfl, hd, hbw⟩ := hrel
    by_cases hlt : i < m
    · have hin : i < n := by omega
      have hi80 : i < 50 := by omega
      have hil : i < l.length := by rw [← HN.out]; exact hin
      obtain ⟨o, ho⟩ : ∃ o, l[i]? = some o := ⟨_, List.getElem?_eq_getElem hil⟩
      obtain ⟨⟨g0, o0, hg0, hgl, c0, c1, c2, c3, c4, c5⟩, hrv⟩ := HO.out.at hbw (Nat.le_refl _) i o ho
      subst hg0
      have HRV := Lib.hid hrv
      have HFIT : Hid o.fit := Lib.hid (HF.out o (List.mem_of_getElem? ho))
      clear ho hrv
      have hb4 : (bs o.b).size ≤ 9223372036854775807 := by rw [bs_size]; exact HFIT.out.2.2.1
      have hzr : w1.heap.size ≤ wr.heap.size := by obtain ⟨S, hd, _⟩ := hd; exact hd.size
      have HD := Lib.hid hd; have HBW := Lib.hid hbw
      clear hd hbw
      have hlg : Calls Tryz.prog 10 #[.slice (some ⟨wr.heap.size + 1, 0, none⟩) 1 1] ((wr.alloc (.cells #[.int .i64 o.d, .int .i64 o.n, .int .i64 o.m, .slice o.la o.l.length o.lc, .string (bs o.b), .slice o.ka o.ks.length o.kc] 34)).alloc (.cells #[.slice o.la o.l.length o.lc] 31)) fun e w' => ∃ b : Bool, e = .returned (.bool b) ∧ (b = true → o.l.length ≤ 40) ∧ Below (wr.heap.size + 2) ((wr.alloc (.cells #[.int .i64 o.d, .int .i64 o.n, .int .i64 o.m, .slice o.la o.l.length o.lc, .string (bs o.b), .slice o.ka o.ks.length o.kc] 34)).alloc (.cells #[.slice o.la o.l.length o.lc] 31)) w' := by
        have hg := heap_alloc_new (wr.alloc (.cells #[.int .i64 o.d, .int .i64 o.n, .int .i64 o.m, .slice o.la o.l.length o.lc, .string (bs o.b), .slice o.ka o.ks.length o.kc] 34)) (.cells #[.slice o.la o.l.length o.lc] 31)
        rw [World.size_alloc] at hg
        have := light8_any hg (HRV.out.1.later ((HBW.out.alloc (by have := HBW.out.size; omega) _).alloc (by have := HBW.out.size; simp; omega) _) (Nat.le_refl _)) HFIT.out.2.1.1 (fun r hr => (HFIT.out.2.1.2 r hr).fits)
        simpa only [World.size_alloc] using this
      have HLG := Lib.hid hlg; clear hlg
      go_wp2_with fail
      refine HLG.out.mono ?_
      rintro e w4 ⟨ok, rfl, hok, hb4'⟩
      have HK4 : Hid (w4.heap[wr.heap.size]? = some (.cells #[.int .i64 o.d, .int .i64 o.n, .int .i64 o.m, .slice o.la o.l.length o.lc, .string (bs o.b), .slice o.ka o.ks.length o.kc] 34 (0, 0))) := Lib.hid (by
        rw [hb4'.block _ (by omega), heap_alloc_old _ _ (by simp)]
        exact heap_alloc_new wr _)
      have HB04 : Hid (Below wr.heap.size wr w4) := Lib.hid ((((Below.refl _ _).alloc (Nat.le_refl _) _).alloc (by simp) _).trans (hb4'.mono (by omega)))
      have HBW4 : Hid (Below w.heap.size w w4) := Lib.hid (HBW.out.trans (HB04.out.mono HBW.out.size))
      have HBO : Hid (∀ S, D.Bo w1.heap.size wr pb qb (fun _ => False) S S → D.Bo w1.heap.size w4 pb qb (fun k => k = wr.heap.size) S S) := Lib.hid (fun S h => (((h.watch _).below ((Below.refl _ _).alloc (Nat.le_refl _) _)).below (by simpa only [World.size_alloc] using hb4')))
      obtain ⟨_, _, _, _, y4, _⟩ := ob_cells HK4.out
      obtain ⟨ob, hob⟩ : ∃ ob, ob = wr.heap.size := ⟨_, rfl⟩
      clear hb4' c0 c1 c2 c3 c4 c5 hgl
      try dsimp only
      cases ok
      · go_wp2_with fail
        go_ret
        exact ⟨rfl, HBW4.out⟩
      · have h40 := hok rfl
        by_cases hbig : 200 < (bs o.b).size
        · go_wp2_with fail
          go_ret
          exact ⟨rfl, HBW4.out⟩
        · have h200 : (bs o.b).size ≤ 200 := by omega
          clear hbig hok
          go_upto_block 2 with fail
          obtain ⟨S, hd, hSl⟩ := HD.out
          rw [← hob] at HK4 HBO y4 ⊢
          clear y4
          refine psw_any (W := w) (W0 := w) (S := S) (o := o) ⟨HBO.out S hd, HK4.out, HBW4.out, hz01, HT.out, by omega, HFIT.out, HRV.out.1, HRV.out.2, Below.refl _ _, h40, by rw [bs_size] at h200; exact h200⟩ ?_
          intro u14 u15 u16 u17 u18 u19 u20 u21 u22 u23 u24 u25 u26 u27 u28 u29 u30 u31 u32 u33 u34 u35 u36 u37 u38 u39 u40 u41 u42 u99 u100 u101 u102 u103 u104 u105 u106 u107 u108 u109 u110 u111 u112 u113 u114 u115 u116 u117 u118 u119 u120 u121 u122 u123 u124 u125 u126 u127 u128 u129 u130 u131 u132 u133 u134 u135 u136 u137 u138 u139 u140 u141 u142 u143 u144 u145 u146 u147 u148 u149 u150 u151 u152 u153 u154 u155 u156 u157 u158 u159 u160 u161 u162 u163 u164 u165 u166 u167 u168 u169 u170 u171 u172 u173 u174 u175 u176 u177 u178 u179 u180 u181 u182 u183 u184 u185 u186 u187 u188 u189 u190 u191 u192 u193 u194 u195 u196 u197 u198 u199 u200 u201 u202 u203 u204 u205 u206 u207 u208 u209 u210 u211 u212 u213 u214 u215 u216 u217 u218 u219 u220 u221 u222 u223 u224 u225 u226 u227 u228 u229 u230 u231 u232 u233 u234 u235 u236 u237 u238 u239 u240 u241 u242 u243 u244 u245 u246 u247 u248 u249 u250 u251 u252 u253 u254 u255 u256 u257 u258 u259 u260 u261 u262 u263 u264 u265 u266 u267 u268 u269 u270 u271 u272 u273 u274 u275 u276 u277 u278 u279 u280 u281 u282 u283 u284 u285 u286 u287 u288 u289 u290 u291 u292 u293 u294 u295 u296 u297 u298 u299 u300 u301 u302 u303 u304 u305 u306 u307 u308 u309 u310 u311 u312 u313 u314 u315 u316 u317 u318 u319 u320 u321 u322 u323 u324 u325 u326 u327 u328 u329 u330 u331 u332 u333 u334 u335 u336 u337 u338 u339 u340 u341 u342 u343 u344 u345 u346 u347 u348 u349 u350 u351 u352 u353 u354 u355 u356 u357 u358 u359 u360 u361 u362 u363 u364 u365 u366 u367 u368 u369 u370 u371 u372 u373 u374 u375 u376 u377 u378 u379 u380 u381 u382 u383 u384 wc hdone
          obtain ⟨T, hB, hTl, hbc⟩ := hdone
          have hT : T.fs.length ≤ 4 * (i + 1) := by omega
          have hTL : T.fs.length < 1000000000 := by omega
          have HB := Lib.hid hB; have HBC := Lib.hid hbc
          rename_i K hK
          dsimp only
          refine hK _ _ ?_
          refine ptail_any hB hTL ?_
          clear hK hTl hSl hd hB hbc h40 h200 hb4 HK4 HBO HBW4 HB04 HD HLG HRV HFIT hob hzr S
          intro u43 u44 u385 u386 u387 u388 u389 u390 u391 u392 u393 u394 u395 u396 u397 u398 u399 u400 u401 u402 u403 u404 u405 u406 u407 u408 u409 u410 u411 wg hbg
          have HCG := Lib.hid hbg
          clear hbg
          go_wp2_with fail
          go_roundg (m - (i + 1))
          case measure => omega
          case rel => exact ⟨i + 1, by omega, by go_num, ⟨T, HB.out.below HCG.out, hT⟩, HBC.out.trans (HCG.out.mono HBC.out.size)⟩
    · obtain rfl : i = m := by omega
      by_cases hmn' : i < n
      · have h80 : i = 50 := by rcases HMM.out with e | e <;> omega
        have h80' : ¬ i < 50 := by omega
        clear hi hlt h80 hmn hm80
        try dsimp only
        go_wp2_with fail
        go_ret
        exact ⟨rfl, hbw⟩
      · clear hi hlt hm80
        go_wp2_with fail
        go_ret
        exact ⟨rfl, hbw⟩

theorem plays8_walk (room : Int) (l : List Sop) (a : Option Addr) (cap : Nat) (w : World) (hT : Tb w.heap.size w) (hr1 : -9223372036854775808 ≤ room) (hr2 : room ≤ 9223372036854775807) (hlm : l.length ≤ 9223372036854775807) (hops : SopsIn w a l) (hfit : ∀ o ∈ l, o.fit) :
    Calls Tryz.prog 3 #[.int .i64 room, .slice a l.length cap] w fun e w' => e = .returned (.bool true) ∧ Below w.heap.size w w' := by
  by_cases hno : room < 0 ∨ 1048576 < room
  · exact plays8_no room l a cap w hT hr1 hr2 hlm hops hfit hno
  · exact plays8_yes room l a cap w hT hr1 hr2 hlm hops hfit (by omega) (by omega)
theorem plays8_law (room : Int) (l : List Sop) (a : Option Addr) (cap : Nat) (w : World) (hT : Tb w.heap.size w) (h0 : (Lit.int .i64 room).wf = true) (h1 : l.length ≤ 9223372036854775807) (h2 : SopsIn w a l) (h3 : ∀ o ∈ l, o.fit) :
    Calls Tryz.prog 3 #[.int .i64 room, .slice a l.length cap] w fun e w' => e = .returned (.bool true) ∧ Below w.heap.size w w' :=
  plays8_walk room l a cap w hT (wf_i64 h0).1 (wf_i64 h0).2 h1 h2 h3
end Go.Proofs.YtmekkbhblghbmaaGreatDoor
