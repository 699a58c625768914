/- Merged out of 5 texts, in build order: Nlays, Npname, Npbuild, Npbytes, Nptotal. -/
import Derived.Shelf.Strconv.Itoa4
import Derived.Shelf.Strings.Repeat
import Derived.Shelf.Strconv.AtoiAll
import Derived.Shelf.Strings.Prefix
import Derived.Test.YtkdidinekoaobaaGreatDoorRows
import Derived.Test.YtkdidinekoaobaaGreatDoorNb
import Derived.Lib.AppendIntMem
import Derived.Lib.AtoiAllCases
import Derived.Shelf.Strings.Builder1
import Derived.Test.YtkdidinekoaobaaGreatDoorVc
import Derived.Test.YtkdidinekoaobaaGreatDoorVb

/- The library's routines that names are made and read with, told by the contracts of the kit's shelf: the layings, field by field. -/
namespace Go.Proofs.YtkdidinekoaobaaGreatDoor.J
open Go.Shelf
def laysItoa_ren : Go.Shelf.Ren := ⟨fun | 171 => 100 | 243 => 129 | 246 => 147 | 283 => 157 | 284 => 158 | 285 => 159 | 286 => 160 | 129 => 114 | 317 => 162 | 318 => 163 | 319 => 164 | 320 => 165 | 337 => 166 | 338 => 167 | n => n, fun | 3 => 3 | 9 => 9 | 2 => 2 | 4 => 4 | 171 => 206 | 0 => 0 | 53 => 120 | 37 => 125 | 5 => 5 | 173 => 208 | 212 => 213 | 51 => 49 | 20 => 20 | 213 => 214 | 46 => 139 | 232 => 215 | 233 => 216 | n => n, fun | 17 => 2 | 18 => 4 | 19 => 5 | n => n⟩
theorem laysItoa : Go.Proofs.LaysM.n171 Tryz.prog laysItoa_ren := {
  mixed := by kernel_rfl
  f129 := Tryz.func114.trans (congrArg some (by kernel_rfl))
  f171 := Tryz.func100.trans (congrArg some (by kernel_rfl))
  f243 := Tryz.func129.trans (congrArg some (by kernel_rfl))
  f246 := Tryz.func147.trans (congrArg some (by kernel_rfl))
  f283 := Tryz.func157.trans (congrArg some (by kernel_rfl))
  f284 := Tryz.func158.trans (congrArg some (by kernel_rfl))
  f285 := Tryz.func159.trans (congrArg some (by kernel_rfl))
  f286 := Tryz.func160.trans (congrArg some (by kernel_rfl))
  f317 := Tryz.func162.trans (congrArg some (by kernel_rfl))
  f318 := Tryz.func163.trans (congrArg some (by kernel_rfl))
  f319 := Tryz.func164.trans (congrArg some (by kernel_rfl))
  f320 := Tryz.func165.trans (congrArg some (by kernel_rfl))
  f337 := Tryz.func166.trans (congrArg some (by kernel_rfl))
  f338 := Tryz.func167.trans (congrArg some (by kernel_rfl))
  t0 := Tryz.underlying0
  a0 := Tryz.isAgg0
  z0 := Tryz.sizeOf0
  v0 := Tryz.zeroValue0
  t2 := Tryz.underlying2
  a2 := Tryz.isAgg2
  z2 := Tryz.sizeOf2
  v2 := Tryz.zeroValue2
  t3 := Tryz.underlying3
  a3 := Tryz.isAgg3
  z3 := Tryz.sizeOf3
  v3 := Tryz.zeroValue3
  t4 := Tryz.underlying4
  a4 := Tryz.isAgg4
  z4 := Tryz.sizeOf4
  v4 := Tryz.zeroValue4
  t5 := Tryz.underlying5
  a5 := Tryz.isAgg5
  z5 := Tryz.sizeOf5
  v5 := Tryz.zeroValue5
  t9 := Tryz.underlying9
  a9 := Tryz.isAgg9
  z9 := Tryz.sizeOf9
  v9 := Tryz.zeroValue9
  t20 := Tryz.underlying20
  a20 := Tryz.isAgg20
  z20 := Tryz.sizeOf20
  v20 := Tryz.zeroValue20
  t37 := Tryz.underlying125
  a37 := Tryz.isAgg125
  z37 := Tryz.sizeOf125
  v37 := Tryz.zeroValue125
  t46 := Tryz.underlying139
  a46 := Tryz.isAgg139
  z46 := Tryz.sizeOf139
  v46 := Tryz.zeroValue139
  t51 := Tryz.underlying49
  a51 := Tryz.isAgg49
  z51 := Tryz.sizeOf49
  v51 := Tryz.zeroValue49
  t53 := Tryz.underlying120
  a53 := Tryz.isAgg120
  z53 := Tryz.sizeOf120
  v53 := Tryz.zeroValue120
  t171 := Tryz.underlying206
  a171 := Tryz.isAgg206
  z171 := Tryz.sizeOf206
  v171 := Tryz.zeroValue206
  t173 := Tryz.underlying208
  a173 := Tryz.isAgg208
  z173 := Tryz.sizeOf208
  v173 := Tryz.zeroValue208
  t212 := Tryz.underlying213
  a212 := Tryz.isAgg213
  z212 := Tryz.sizeOf213
  v212 := Tryz.zeroValue213
  t213 := Tryz.underlying214
  a213 := Tryz.isAgg214
  z213 := Tryz.sizeOf214
  t232 := Tryz.underlying215
  a232 := Tryz.isAgg215
  z232 := Tryz.sizeOf215
  v232 := Tryz.zeroValue215
  t233 := Tryz.underlying216
  a233 := Tryz.isAgg216
  z233 := Tryz.sizeOf216
  v233 := Tryz.zeroValue216
  g17 := by kernel_rfl
  g18 := by kernel_rfl
  g19 := by kernel_rfl
  i0 := by kernel_rfl
  i2 := by kernel_rfl
  i3 := by kernel_rfl
  i4 := by kernel_rfl
  i5 := by kernel_rfl
  i9 := by kernel_rfl
  i20 := by kernel_rfl
  i37 := by kernel_rfl
  i46 := by kernel_rfl
  i51 := by kernel_rfl
  i53 := by kernel_rfl
  i171 := by kernel_rfl
  i173 := by kernel_rfl
  i212 := by kernel_rfl
  i232 := by kernel_rfl
  i233 := by kernel_rfl
  m17 := by kernel_rfl
  m18 := by kernel_rfl
  m19 := by kernel_rfl }
def laysRepeat_ren : Go.Shelf.Ren := ⟨fun | 105 => 101 | 212 => 130 | 99 => 131 | 165 => 132 | 166 => 71 | 170 => 133 | 169 => 74 | 263 => 148 | 264 => 149 | 206 => 122 | 240 => 96 | 241 => 150 | 276 => 128 | 277 => 161 | n => n, fun | 9 => 9 | 3 => 3 | 4 => 4 | 20 => 20 | 0 => 0 | 46 => 139 | 109 => 175 | 5 => 5 | 72 => 127 | 76 => 111 | 51 => 49 | 146 => 194 | 53 => 120 | 148 => 196 | 70 => 124 | 37 => 125 | 75 => 110 | 127 => 146 | 164 => 171 | 80 => 130 | n => n, fun | n => n⟩
theorem laysRepeat : Go.Proofs.Lays.n105 Tryz.prog laysRepeat_ren := {
  mixed := by kernel_rfl
  f99 := Tryz.func131.trans (congrArg some (by kernel_rfl))
  f105 := Tryz.func101.trans (congrArg some (by kernel_rfl))
  f165 := Tryz.func132.trans (congrArg some (by kernel_rfl))
  f166 := Tryz.func71.trans (congrArg some (by kernel_rfl))
  f169 := Tryz.func74.trans (congrArg some (by kernel_rfl))
  f170 := Tryz.func133.trans (congrArg some (by kernel_rfl))
  f206 := Tryz.func122.trans (congrArg some (by kernel_rfl))
  f212 := Tryz.func130.trans (congrArg some (by kernel_rfl))
  f240 := Tryz.func96.trans (congrArg some (by kernel_rfl))
  f241 := Tryz.func150.trans (congrArg some (by kernel_rfl))
  f263 := Tryz.func148.trans (congrArg some (by kernel_rfl))
  f264 := Tryz.func149.trans (congrArg some (by kernel_rfl))
  f276 := Tryz.func128.trans (congrArg some (by kernel_rfl))
  f277 := Tryz.func161.trans (congrArg some (by kernel_rfl))
  t0 := Tryz.underlying0
  a0 := Tryz.isAgg0
  z0 := Tryz.sizeOf0
  v0 := Tryz.zeroValue0
  t3 := Tryz.underlying3
  a3 := Tryz.isAgg3
  z3 := Tryz.sizeOf3
  v3 := Tryz.zeroValue3
  t4 := Tryz.underlying4
  a4 := Tryz.isAgg4
  z4 := Tryz.sizeOf4
  v4 := Tryz.zeroValue4
  t5 := Tryz.underlying5
  a5 := Tryz.isAgg5
  z5 := Tryz.sizeOf5
  v5 := Tryz.zeroValue5
  t9 := Tryz.underlying9
  a9 := Tryz.isAgg9
  z9 := Tryz.sizeOf9
  v9 := Tryz.zeroValue9
  t20 := Tryz.underlying20
  a20 := Tryz.isAgg20
  z20 := Tryz.sizeOf20
  v20 := Tryz.zeroValue20
  t37 := Tryz.underlying125
  a37 := Tryz.isAgg125
  z37 := Tryz.sizeOf125
  v37 := Tryz.zeroValue125
  t46 := Tryz.underlying139
  a46 := Tryz.isAgg139
  z46 := Tryz.sizeOf139
  v46 := Tryz.zeroValue139
  t51 := Tryz.underlying49
  a51 := Tryz.isAgg49
  z51 := Tryz.sizeOf49
  v51 := Tryz.zeroValue49
  t53 := Tryz.underlying120
  a53 := Tryz.isAgg120
  z53 := Tryz.sizeOf120
  v53 := Tryz.zeroValue120
  t70 := Tryz.underlying124
  a70 := Tryz.isAgg124
  z70 := Tryz.sizeOf124
  v70 := Tryz.zeroValue124
  t72 := Tryz.underlying127
  a72 := Tryz.isAgg127
  z72 := Tryz.sizeOf127
  v72 := Tryz.zeroValue127
  t75 := Tryz.underlying110
  a75 := Tryz.isAgg110
  z75 := Tryz.sizeOf110
  v75 := Tryz.zeroValue110
  t76 := Tryz.underlying111
  a76 := Tryz.isAgg111
  z76 := Tryz.sizeOf111
  v76 := Tryz.zeroValue111
  t109 := Tryz.underlying175
  a109 := Tryz.isAgg175
  z109 := Tryz.sizeOf175
  v109 := Tryz.zeroValue175
  t127 := Tryz.underlying146
  a127 := Tryz.isAgg146
  z127 := Tryz.sizeOf146
  v127 := Tryz.zeroValue146
  t146 := Tryz.underlying194
  a146 := Tryz.isAgg194
  z146 := Tryz.sizeOf194
  v146 := Tryz.zeroValue194
  t148 := Tryz.underlying196
  a148 := Tryz.isAgg196
  z148 := Tryz.sizeOf196
  v148 := Tryz.zeroValue196
  t164 := Tryz.underlying171
  a164 := Tryz.isAgg171
  z164 := Tryz.sizeOf171
  v164 := Tryz.zeroValue171 }
def laysAtoi_ren : Go.Shelf.Ren := ⟨fun | 172 => 64 | 244 => 91 | 245 => 92 | 247 => 117 | 279 => 118 | 280 => 119 | 281 => 120 | 282 => 121 | 287 => 143 | 316 => 144 | 171 => 100 | 205 => 145 | 321 => 153 | 322 => 154 | 243 => 129 | 246 => 147 | 283 => 157 | 284 => 158 | 285 => 159 | 286 => 160 | 129 => 114 | 317 => 162 | 318 => 163 | 319 => 164 | 320 => 165 | 337 => 166 | 338 => 167 | n => n, fun | 9 => 9 | 3 => 3 | 75 => 110 | 76 => 111 | 4 => 4 | 5 => 5 | 167 => 159 | 37 => 125 | 0 => 0 | 85 => 160 | 2 => 2 | 168 => 162 | 53 => 120 | 175 => 188 | 46 => 139 | 210 => 191 | 127 => 146 | 145 => 204 | 143 => 202 | 21 => 21 | 171 => 206 | 173 => 208 | 212 => 213 | 51 => 49 | 20 => 20 | 213 => 214 | 232 => 215 | 233 => 216 | 80 => 130 | n => n, fun | 15 => 0 | 16 => 1 | 17 => 2 | 18 => 4 | 19 => 5 | n => n⟩
theorem laysAtoi : Go.Proofs.LaysC.n172 Tryz.prog laysAtoi_ren := {
  mixed := by kernel_rfl
  f129 := Tryz.func114.trans (congrArg some (by kernel_rfl))
  f171 := Tryz.func100.trans (congrArg some (by kernel_rfl))
  f172 := Tryz.func64.trans (congrArg some (by kernel_rfl))
  f205 := Tryz.func145.trans (congrArg some (by kernel_rfl))
  f243 := Tryz.func129.trans (congrArg some (by kernel_rfl))
  f244 := Tryz.func91.trans (congrArg some (by kernel_rfl))
  f245 := Tryz.func92.trans (congrArg some (by kernel_rfl))
  f246 := Tryz.func147.trans (congrArg some (by kernel_rfl))
  f247 := Tryz.func117.trans (congrArg some (by kernel_rfl))
  f279 := Tryz.func118.trans (congrArg some (by kernel_rfl))
  f280 := Tryz.func119.trans (congrArg some (by kernel_rfl))
  f281 := Tryz.func120.trans (congrArg some (by kernel_rfl))
  f282 := Tryz.func121.trans (congrArg some (by kernel_rfl))
  f283 := Tryz.func157.trans (congrArg some (by kernel_rfl))
  f284 := Tryz.func158.trans (congrArg some (by kernel_rfl))
  f285 := Tryz.func159.trans (congrArg some (by kernel_rfl))
  f286 := Tryz.func160.trans (congrArg some (by kernel_rfl))
  f287 := Tryz.func143.trans (congrArg some (by kernel_rfl))
  f316 := Tryz.func144.trans (congrArg some (by kernel_rfl))
  f317 := Tryz.func162.trans (congrArg some (by kernel_rfl))
  f318 := Tryz.func163.trans (congrArg some (by kernel_rfl))
  f319 := Tryz.func164.trans (congrArg some (by kernel_rfl))
  f320 := Tryz.func165.trans (congrArg some (by kernel_rfl))
  f321 := Tryz.func153.trans (congrArg some (by kernel_rfl))
  f322 := Tryz.func154.trans (congrArg some (by kernel_rfl))
  f337 := Tryz.func166.trans (congrArg some (by kernel_rfl))
  f338 := Tryz.func167.trans (congrArg some (by kernel_rfl))
  t0 := Tryz.underlying0
  a0 := Tryz.isAgg0
  z0 := Tryz.sizeOf0
  v0 := Tryz.zeroValue0
  t2 := Tryz.underlying2
  a2 := Tryz.isAgg2
  z2 := Tryz.sizeOf2
  v2 := Tryz.zeroValue2
  t3 := Tryz.underlying3
  a3 := Tryz.isAgg3
  z3 := Tryz.sizeOf3
  v3 := Tryz.zeroValue3
  t4 := Tryz.underlying4
  a4 := Tryz.isAgg4
  z4 := Tryz.sizeOf4
  v4 := Tryz.zeroValue4
  t5 := Tryz.underlying5
  a5 := Tryz.isAgg5
  z5 := Tryz.sizeOf5
  v5 := Tryz.zeroValue5
  t9 := Tryz.underlying9
  a9 := Tryz.isAgg9
  z9 := Tryz.sizeOf9
  v9 := Tryz.zeroValue9
  t20 := Tryz.underlying20
  a20 := Tryz.isAgg20
  z20 := Tryz.sizeOf20
  v20 := Tryz.zeroValue20
  t21 := Tryz.underlying21
  a21 := Tryz.isAgg21
  z21 := Tryz.sizeOf21
  v21 := Tryz.zeroValue21
  t37 := Tryz.underlying125
  a37 := Tryz.isAgg125
  z37 := Tryz.sizeOf125
  v37 := Tryz.zeroValue125
  t46 := Tryz.underlying139
  a46 := Tryz.isAgg139
  z46 := Tryz.sizeOf139
  v46 := Tryz.zeroValue139
  t51 := Tryz.underlying49
  a51 := Tryz.isAgg49
  z51 := Tryz.sizeOf49
  v51 := Tryz.zeroValue49
  t53 := Tryz.underlying120
  a53 := Tryz.isAgg120
  z53 := Tryz.sizeOf120
  v53 := Tryz.zeroValue120
  t75 := Tryz.underlying110
  a75 := Tryz.isAgg110
  z75 := Tryz.sizeOf110
  v75 := Tryz.zeroValue110
  t76 := Tryz.underlying111
  a76 := Tryz.isAgg111
  z76 := Tryz.sizeOf111
  v76 := Tryz.zeroValue111
  t85 := Tryz.underlying160
  a85 := Tryz.isAgg160
  z85 := Tryz.sizeOf160
  v85 := Tryz.zeroValue160
  t127 := Tryz.underlying146
  a127 := Tryz.isAgg146
  z127 := Tryz.sizeOf146
  v127 := Tryz.zeroValue146
  t143 := Tryz.underlying202
  a143 := Tryz.isAgg202
  z143 := Tryz.sizeOf202
  v143 := Tryz.zeroValue202
  t145 := Tryz.underlying204
  a145 := Tryz.isAgg204
  z145 := Tryz.sizeOf204
  v145 := Tryz.zeroValue204
  t167 := Tryz.underlying159
  a167 := Tryz.isAgg159
  z167 := Tryz.sizeOf159
  v167 := Tryz.zeroValue159
  t168 := Tryz.underlying162
  a168 := Tryz.isAgg162
  z168 := Tryz.sizeOf162
  v168 := Tryz.zeroValue162
  t171 := Tryz.underlying206
  a171 := Tryz.isAgg206
  z171 := Tryz.sizeOf206
  v171 := Tryz.zeroValue206
  t173 := Tryz.underlying208
  a173 := Tryz.isAgg208
  z173 := Tryz.sizeOf208
  v173 := Tryz.zeroValue208
  t175 := Tryz.underlying188
  a175 := Tryz.isAgg188
  z175 := Tryz.sizeOf188
  v175 := Tryz.zeroValue188
  t210 := Tryz.underlying191
  a210 := Tryz.isAgg191
  z210 := Tryz.sizeOf191
  v210 := Tryz.zeroValue191
  t212 := Tryz.underlying213
  a212 := Tryz.isAgg213
  z212 := Tryz.sizeOf213
  v212 := Tryz.zeroValue213
  t213 := Tryz.underlying214
  a213 := Tryz.isAgg214
  z213 := Tryz.sizeOf214
  t232 := Tryz.underlying215
  a232 := Tryz.isAgg215
  z232 := Tryz.sizeOf215
  v232 := Tryz.zeroValue215
  t233 := Tryz.underlying216
  a233 := Tryz.isAgg216
  z233 := Tryz.sizeOf216
  v233 := Tryz.zeroValue216
  g15 := by kernel_rfl
  g16 := by kernel_rfl
  g17 := by kernel_rfl
  g18 := by kernel_rfl
  g19 := by kernel_rfl
  t80 := Tryz.underlying130
  a80 := Tryz.isAgg130
  z80 := Tryz.sizeOf130
  v80 := Tryz.zeroValue130
  i0 := by kernel_rfl
  i2 := by kernel_rfl
  i3 := by kernel_rfl
  i4 := by kernel_rfl
  i5 := by kernel_rfl
  i9 := by kernel_rfl
  i20 := by kernel_rfl
  i21 := by kernel_rfl
  i37 := by kernel_rfl
  i46 := by kernel_rfl
  i51 := by kernel_rfl
  i53 := by kernel_rfl
  i75 := by kernel_rfl
  i76 := by kernel_rfl
  i80 := by kernel_rfl
  i85 := by kernel_rfl
  i127 := by kernel_rfl
  i143 := by kernel_rfl
  i145 := by kernel_rfl
  i167 := by kernel_rfl
  i168 := by kernel_rfl
  i171 := by kernel_rfl
  i173 := by kernel_rfl
  i175 := by kernel_rfl
  i210 := by kernel_rfl
  i212 := by kernel_rfl
  i232 := by kernel_rfl
  i233 := by kernel_rfl
  m15 := by kernel_rfl
  m16 := by kernel_rfl
  m17 := by kernel_rfl
  m18 := by kernel_rfl
  m19 := by kernel_rfl
  c0 := by kernel_rfl
  c2 := by kernel_rfl
  c3 := by kernel_rfl
  c4 := by kernel_rfl
  c5 := by kernel_rfl
  c9 := by kernel_rfl
  c20 := by kernel_rfl
  c21 := by kernel_rfl
  c37 := by kernel_rfl
  c46 := by kernel_rfl
  c51 := by kernel_rfl
  c53 := by kernel_rfl
  c75 := by kernel_rfl
  c76 := by kernel_rfl
  c80 := by kernel_rfl
  c85 := by kernel_rfl
  c127 := by kernel_rfl
  c143 := by kernel_rfl
  c145 := by kernel_rfl
  c167 := by kernel_rfl
  c168 := by kernel_rfl
  c171 := by kernel_rfl
  c173 := by kernel_rfl
  c175 := by kernel_rfl
  c210 := by kernel_rfl
  c212 := by kernel_rfl
  c213 := by kernel_rfl
  c232 := by kernel_rfl
  c233 := by kernel_rfl }
def laysTrim_ren : Go.Shelf.Ren := ⟨fun | 101 => 65 | 208 => 93 | 206 => 122 | n => n, fun | 9 => 9 | 4 => 4 | 3 => 3 | n => n, fun | n => n⟩
theorem laysTrim : Go.Proofs.Lays.n101 Tryz.prog laysTrim_ren := {
  mixed := by kernel_rfl
  f101 := Tryz.func65.trans (congrArg some (by kernel_rfl))
  f206 := Tryz.func122.trans (congrArg some (by kernel_rfl))
  f208 := Tryz.func93.trans (congrArg some (by kernel_rfl))
  t3 := Tryz.underlying3
  a3 := Tryz.isAgg3
  z3 := Tryz.sizeOf3
  v3 := Tryz.zeroValue3
  t4 := Tryz.underlying4
  a4 := Tryz.isAgg4
  z4 := Tryz.sizeOf4
  v4 := Tryz.zeroValue4
  t9 := Tryz.underlying9
  a9 := Tryz.isAgg9
  z9 := Tryz.sizeOf9
  v9 := Tryz.zeroValue9 }
end Go.Proofs.YtkdidinekoaobaaGreatDoor.J

/- The program's names: objectName, Name, Object; Version, which has the library convert digits. -/
namespace Go.Proofs.YtkdidinekoaobaaGreatDoor.J
open Go.RowKit Go.Shelf
set_option linter.unusedVariables false
set_option linter.unusedSimpArgs false

theorem digs_zero : ∀ k, digs k 0 = List.replicate k 48
  | 0 => rfl
  | k + 1 => by
    rw [digs, Nat.zero_div, digs_zero k, ← List.replicate_append_replicate (n := k) (m := 1)]
    rfl
theorem dec_digs : ∀ k n, n < 10 ^ (k + 1) → (Lib.decDigits n).length ≤ k + 1 ∧ digs (k + 1) n = List.replicate (k + 1 - (Lib.decDigits n).length) 48 ++ Lib.decDigits n
  | 0, n, h => by
    have h1 : n < 10 := by simpa using h
    rw [Lib.decDigits_one h1]
    refine ⟨by simp, ?_⟩
    simp [digs, dg, Nat.mod_eq_of_lt h1]
  | k + 1, n, h => by
    by_cases h1 : n < 10
    · rw [Lib.decDigits_one h1]
      refine ⟨by simp, ?_⟩
      rw [digs, Nat.div_eq_of_lt h1, digs_zero]
      simp [dg, Nat.mod_eq_of_lt h1]
    · have hlt : n / 10 < 10 ^ (k + 1) := by rw [Nat.div_lt_iff_lt_mul (by omega), ← Nat.pow_succ]; exact h
      obtain ⟨i1, i2⟩ := dec_digs k (n / 10) hlt
      have e : Lib.decDigits n = Lib.decDigits (n / 10) ++ [UInt8.ofNat (48 + n % 10)] := by rw [Lib.decDigits, dif_neg h1]
      rw [digs, i2, e, List.length_append, List.length_singleton]
      refine ⟨by omega, ?_⟩
      rw [show k + 1 + 1 - ((Lib.decDigits (n / 10)).length + 1) = k + 1 - (Lib.decDigits (n / 10)).length by omega, List.append_assoc]
      rfl
/-- A name's parts: the letter, so many zeros, the digits. -/
theorem name_parts (c : UInt8) {n : Int} (h0 : 0 ≤ n) (h1 : n ≤ 999999) : (Lib.itoa n).length ≤ 6 ∧ c :: dig n.toNat = [c] ++ Lib.repeatL [48] (6 - (Lib.itoa n).length) ++ Lib.itoa n := by
  obtain ⟨m, rfl⟩ : ∃ m : Nat, n = m := ⟨n.toNat, by omega⟩
  obtain ⟨i1, i2⟩ := dec_digs 5 m (by omega)
  rw [Lib.itoa_nonneg, Int.toNat_natCast]
  refine ⟨i1, ?_⟩
  have e := Lib.repeatL_replicate 48 1 (6 - (Lib.decDigits m).length)
  rw [show List.replicate 1 (48 : UInt8) = [48] from rfl, Nat.mul_one] at e
  rw [e, List.append_assoc, ← i2, dig_digs]
  rfl

theorem repX : Builder.Extra Tryz.prog laysRepeat_ren := {
  sizeBuilder := by kernel_rfl
  liesBuilder := by kernel_rfl
  t5 := laysRepeat.t5
  a5 := laysRepeat.a5
  z5 := laysRepeat.z5
  v5 := laysRepeat.v5
  infoByte := by kernel_rfl
  cellsByte := by kernel_rfl
  sizeByte := by kernel_rfl
  neB5 := by decide }
theorem rep_any (c : Nat) (w : World) (hc : c ≤ 6) : Calls Tryz.prog 101 #[.string ⟨#[48]⟩, .int .i64 c] w fun e w' => e = .returned (.string (bs (Lib.repeatL [48] c))) ∧ Below w.heap.size w w' :=
  Any.strings_Repeat laysRepeat repX ⟨#[48]⟩ c w (by omega) (by show 1 * c ≤ _; omega)
theorem itoa_any (n : Int) (w : World) (hV : Vt w) (hn : i64 n) : Calls Tryz.prog 100 #[.int .i64 n] w fun e w' => e = .returned (.string (bs (Lib.itoa n))) ∧ Below w.heap.size w w' :=
  (Any.strconv_Itoa laysItoa n hn.1 hn.2 w (hV.tabIs (by kernel_rfl))).mono fun e w' ⟨h, k, os, hw⟩ => ⟨h, hw ▸ Lib.below_grow _ w (Nat.le_refl _) k os⟩
theorem atoi_ok (s : List UInt8) (v : Int) (w : World) (hs : s.length ≤ 1000) (h : Lib.atoiAll s = .ok v) : Calls Tryz.prog 64 #[.string (bs s)] w fun e w' => e = .returned (.tuple #[.int .i64 v, .nilIface]) ∧ Below w.heap.size w w' :=
  (Any.strconv_Atoi_ok laysAtoi (bs s) (by rw [bs_size]; omega) v h w).mono fun e w' ⟨h, hw⟩ => ⟨h, by
    rcases hw with rfl | ⟨t, rfl⟩
    · exact Below.refl _ _
    · exact Lib.bytesWorld_below _ _ _⟩
theorem atoi_err (s : List UInt8) (w : World) (hV : Vt w) (hs : s.length ≤ 1000) (h : ∀ v, Lib.atoiAll s ≠ .ok v) : Calls Tryz.prog 64 #[.string (bs s)] w fun e w' => (∃ v te N, e = .returned (.tuple #[.int .i64 v, .iface te (.pointer (some ⟨N, 0, none⟩))])) ∧ Below w.heap.size w w' := by
  rcases hx : Lib.atoiAll s with v | _ | _
  · exact absurd hx (h v)
  · obtain ⟨te, pe, hc⟩ := hV.syn
    exact (Any.strconv_Atoi_syntax laysAtoi (bs s) (by rw [bs_size]; omega) hx _ w hc (Or.inr ⟨te, pe, rfl⟩)).mono fun e w' ⟨N, h1, _, _, h4⟩ => ⟨⟨_, _, N, h1⟩, h4⟩
  · obtain ⟨te, pe, hc⟩ := hV.rng
    exact (Any.strconv_Atoi_range laysAtoi (bs s) (by rw [bs_size]; omega) hx _ w hc (Or.inr ⟨te, pe, rfl⟩)).mono fun e w' ⟨N, h1, _, _, h4⟩ => ⟨⟨_, _, N, h1⟩, h4⟩
theorem trim_any (s : List UInt8) (w : World) : Calls Tryz.prog 65 #[.string (bs s), .string ⟨#[109]⟩] w fun e w' => e = .returned (.string (bs (Lib.trimPrefix s [109]))) ∧ w = w' :=
  (Any.strings_TrimPrefix laysTrim (bs s) ⟨#[109]⟩ w).mono fun e w' ⟨h1, h2⟩ => ⟨h1, h2.symm⟩

theorem parse_dg (acc m : Nat) (r : List UInt8) (h : acc < 1000000000000) : Lib.parseUint10 acc (dg m :: r) = Lib.parseUint10 (acc * 10 + m % 10) r := by
  rw [Lib.parseUint10, dg_toNat, if_pos (by omega), if_neg (by omega), if_neg (by omega)]
  congr 1
  omega
/-- Six digits are converted to their number. -/
theorem atoi_dig {n : Nat} (h : n ≤ 999999) : Lib.atoiAll (dig n) = .ok (n : Int) := by
  have e : Lib.parseUint10 0 (dig n) = .ok n := by
    unfold dig
    rw [parse_dg _ _ _ (by omega), parse_dg _ _ _ (by omega), parse_dg _ _ _ (by omega), parse_dg _ _ _ (by omega), parse_dg _ _ _ (by omega), parse_dg _ _ _ (by omega), Lib.parseUint10]
    congr 1
    omega
  have hne : dig n ≠ [] := by simp [dig]
  have hd : dig n = dg (n / 100000) :: [dg (n / 10000), dg (n / 1000), dg (n / 100), dg (n / 10), dg n] := rfl
  have t0 := dg_toNat (n / 100000)
  have hm : Lib.parseMag (dig n) = .ok n := by unfold Lib.parseMag; rw [if_neg hne, e]
  unfold Lib.atoiAll
  rw [hd]
  simp only
  rw [if_neg (by omega), ← hd, hm]
  simp only
  rw [if_neg (by omega), if_neg (by omega), if_neg (by omega)]

set_option maxRecDepth 100000 in
set_option maxHeartbeats 1000000 in
theorem objname_any (c : UInt8) (n : Int) (w : World) (hV : Vt w) (h0 : 0 ≤ n) (h1 : n ≤ 999999) :
    Calls Tryz.prog 77 #[.string (bs [c]), .int .i64 n] w fun e w' => e = .returned (.string (bs (c :: dig n.toNat))) ∧ Below w.heap.size w w' := by
  obtain ⟨h6, hp⟩ := name_parts c h0 h1
  have HI := Lib.hid (itoa_any n w hV (by unfold i64; omega))
  have HP := Lib.hid (rep_any (6 - (Lib.itoa n).length))
  have hA := bs_join [c] (Lib.repeatL [48] (6 - (Lib.itoa n).length))
  have hB := bs_join ([c] ++ Lib.repeatL [48] (6 - (Lib.itoa n).length)) (Lib.itoa n)
  have s1 : (bs [c]).size = 1 := bs_size _
  have s2 : (bs (Lib.itoa n)).size = (Lib.itoa n).length := bs_size _
  have s3 : (bs (Lib.repeatL [48] (6 - (Lib.itoa n).length))).size = 6 - (Lib.itoa n).length := by rw [bs_size, Lib.repeatL_length]; simp
  rw [← hp] at hB
  rw [hA] at hB
  have s4 : (bs [c] ++ bs (Lib.repeatL [48] (6 - (Lib.itoa n).length))).size = 1 + (6 - (Lib.itoa n).length) := by rw [ByteArray.size_append, s1, s3]
  have HB := Lib.hid hB
  generalize bs (Lib.itoa n) = I at *
  generalize bs [c] = Cc at *
  generalize bs (c :: dig n.toNat) = N at *
  obtain ⟨M, hM⟩ : ∃ M, (Lib.itoa n).length = M := ⟨_, rfl⟩
  rw [hM] at h6 s2 s3 s4 HP HB
  obtain ⟨K, hK⟩ : ∃ K, 6 - M = K := ⟨_, rfl⟩
  rw [hK] at s3 s4 HP HB
  generalize bs (Lib.repeatL [48] K) = R at *
  have q1 : IntKind.i64.wrap (6 - (M : Int)) = (K : Int) := by rw [IntWalk.i64_in _ ⟨by omega, by omega⟩]; omega
  clear hp hA hB hV hM
  go_enter Tryz.func77, Tryz.ntmps77
  go_wp2_with fail
  refine HI.out.mono ?_
  rintro e w1 ⟨rfl, hb1⟩
  have HB1 := Lib.hid hb1; clear hb1
  go_wp2_with fail
  first | rw [q1] | skip
  refine (HP.out _ (by omega)).mono ?_
  rintro e w2 ⟨rfl, hb2⟩
  have HB2 := Lib.hid (HB1.out.trans (hb2.mono HB1.out.size)); clear hb2
  go_wp2_with fail
  go_ret
  exact ⟨by rw [HB.out]; rfl, HB2.out⟩

set_option maxRecDepth 100000 in
theorem pname_any (v : Int) (w : World) (hV : Vt w) (hv : i64 v) : Calls Tryz.prog 40 #[.int .i64 v] w fun e w' => e = .returned (.string (bs (nm v))) ∧ Below w.heap.size w w' := by
  have HVV := Lib.hid (vv_any v)
  by_cases h : 1 ≤ v ∧ v ≤ 999999
  · rw [nm_yes h]
    have HO := Lib.hid (objname_any 109 v w hV (by omega) h.2)
    rw [decide_eq_true h] at HVV
    rw [show bs [109] = (⟨#[109]⟩ : ByteArray) from rfl] at HO
    clear h hV hv
    generalize bs (109 :: dig v.toNat) = N at *
    go_enter Tryz.func40, Tryz.ntmps40
    go_wp2_with fail
    refine (HVV.out _).mono ?_
    rintro e w1 ⟨rfl, rfl⟩
    go_wp2_with fail
    refine HO.out.mono ?_
    rintro e w2 ⟨rfl, b2⟩
    go_wp2_with fail
    go_ret
    exact ⟨rfl, b2⟩
  · rw [nm_no h]
    rw [decide_eq_false h] at HVV
    clear h hV hv
    go_enter Tryz.func40, Tryz.ntmps40
    go_wp2_with fail
    refine (HVV.out _).mono ?_
    rintro e w1 ⟨rfl, rfl⟩
    go_wp2_with fail
    go_ret
    exact ⟨rfl, Below.refl _ _⟩
set_option maxRecDepth 100000 in
theorem pobject_any (v : Int) (w : World) (hV : Vt w) (hv : i64 v) : Calls Tryz.prog 44 #[.int .i64 v] w fun e w' => e = .returned (.string (bs (ob v))) ∧ Below w.heap.size w w' := by
  have HVV := Lib.hid (vn_any v)
  by_cases h : 0 ≤ v ∧ v ≤ 999999
  · rw [ob_yes h]
    have HO := Lib.hid (objname_any 111 v w hV (by omega) h.2)
    rw [decide_eq_true h] at HVV
    rw [show bs [111] = (⟨#[111]⟩ : ByteArray) from rfl] at HO
    clear h hV hv
    generalize bs (111 :: dig v.toNat) = N at *
    go_enter Tryz.func44, Tryz.ntmps44
    go_wp2_with fail
    refine (HVV.out _).mono ?_
    rintro e w1 ⟨rfl, rfl⟩
    go_wp2_with fail
    refine HO.out.mono ?_
    rintro e w2 ⟨rfl, b2⟩
    go_wp2_with fail
    go_ret
    exact ⟨rfl, b2⟩
  · rw [ob_no h]
    rw [decide_eq_false h] at HVV
    clear h hV hv
    go_enter Tryz.func44, Tryz.ntmps44
    go_wp2_with fail
    refine (HVV.out _).mono ?_
    rintro e w1 ⟨rfl, rfl⟩
    go_wp2_with fail
    go_ret
    exact ⟨rfl, Below.refl _ _⟩

theorem trim_ver {s : List UInt8} {v : Int} (h : isVer s v) : Lib.atoiAll (Lib.trimPrefix s [109]) = .ok v := by
  obtain ⟨h1, h2⟩ := h
  rw [nm_yes h1] at h2
  rw [← h2, show Lib.trimPrefix (109 :: dig v.toNat) [109] = dig v.toNat by simp [Lib.trimPrefix, Lib.hasPrefix], atoi_dig (by omega)]
  congr 1
  omega

set_option maxRecDepth 100000 in
set_option maxHeartbeats 1000000 in
theorem pver_any (s : List UInt8) (w : World) (hV : Vt w) (hs : s.length ≤ 1000) : Calls Tryz.prog 31 #[.string (bs s)] w fun e w' => e = .returned (.tuple #[.int .i64 (vr s).1, .bool (vr s).2]) ∧ Below w.heap.size w w' := by
  have HT := Lib.hid (trim_any s w)
  have htl : (Lib.trimPrefix s [109]).length ≤ 1000 := by
    unfold Lib.trimPrefix
    split
    · rw [List.length_drop]; omega
    · exact hs
  by_cases hx : ∃ v, Lib.atoiAll (Lib.trimPrefix s [109]) = .ok v
  · obtain ⟨v, hx⟩ := hx
    have hb := Lib.atoiAll_bounds hx
    have HA := Lib.hid (atoi_ok _ v w htl hx)
    have HN := Lib.hid (fun W (hW : Below w.heap.size w W) => pname_any v W (hV.later hW) (by unfold i64; omega))
    have hcmp : ((bs (nm v)).toList == (bs s).toList) = decide (nm v = s) := by
      rw [bs_toList, bs_toList]
      by_cases h : nm v = s
      · rw [decide_eq_true h]; simpa using h
      · rw [decide_eq_false h]; simpa using h
    by_cases h : nm v = s
    · have hr : 1 ≤ v ∧ v ≤ 999999 := by
        refine Decidable.byContradiction fun hn => ?_
        rw [nm_no hn] at h
        subst h
        rw [show Lib.trimPrefix [] [109] = [] by simp [Lib.trimPrefix, Lib.hasPrefix]] at hx
        simp [Lib.atoiAll] at hx
      have HV := Lib.hid (vr_yes ⟨hr, h⟩)
      rw [decide_eq_true h] at hcmp
      rw [HV.out]
      clear h hr hx hs htl hV
      generalize bs s = X at *
      generalize bs (Lib.trimPrefix s [109]) = Y at *
      generalize bs (nm v) = Z at *
      go_enter Tryz.func31, Tryz.ntmps31
      go_wp2_with fail
      refine HT.out.mono ?_
      rintro e w1 ⟨rfl, rfl⟩
      go_wp2_with fail
      refine HA.out.mono ?_
      rintro e w2 ⟨rfl, b2⟩
      go_wp2_with fail
      refine (HN.out _ b2).mono ?_
      rintro e w3 ⟨rfl, b3⟩
      have HF := Lib.hid (b2.trans (b3.mono b2.size))
      go_wp2_with fail
      go_ret2
      exact ⟨rfl, HF.out⟩
    · have HV := Lib.hid (vr_no (s := s) (fun v' hv' => h (by
        have := trim_ver hv'
        rw [hx] at this
        injection this with this
        rw [this]; exact hv'.2)))
      rw [decide_eq_false h] at hcmp
      rw [HV.out]
      clear h hx hs htl hV
      generalize bs s = X at *
      generalize bs (Lib.trimPrefix s [109]) = Y at *
      generalize bs (nm v) = Z at *
      go_enter Tryz.func31, Tryz.ntmps31
      go_wp2_with fail
      refine HT.out.mono ?_
      rintro e w1 ⟨rfl, rfl⟩
      go_wp2_with fail
      refine HA.out.mono ?_
      rintro e w2 ⟨rfl, b2⟩
      go_wp2_with fail
      refine (HN.out _ b2).mono ?_
      rintro e w3 ⟨rfl, b3⟩
      have HF := Lib.hid (b2.trans (b3.mono b2.size))
      go_wp2_with fail
      go_ret2
      exact ⟨rfl, HF.out⟩
  · have HA := Lib.hid (atoi_err _ w hV htl (fun v h => hx ⟨v, h⟩))
    have HV := Lib.hid (vr_no (s := s) (fun v' hv' => hx ⟨v', trim_ver hv'⟩))
    rw [HV.out]
    clear hx hs htl hV
    generalize bs s = X at *
    generalize bs (Lib.trimPrefix s [109]) = Y at *
    go_enter Tryz.func31, Tryz.ntmps31
    go_wp2_with fail
    refine HT.out.mono ?_
    rintro e w1 ⟨rfl, rfl⟩
    go_wp2_with fail
    refine HA.out.mono ?_
    rintro e w2 ⟨⟨v, te, N, rfl⟩, b2⟩
    go_wp2_with fail
    go_ret2
    exact ⟨rfl, b2⟩
end Go.Proofs.YtkdidinekoaobaaGreatDoor.J

/- What the calls of strings.Builder that the program makes do: WriteString appends, String tells all that was written. -/
namespace Go.Proofs.YtkdidinekoaobaaGreatDoor.J
open Go.RowKit Go.Shelf

def bRen : Go.Shelf.Ren := ⟨fun | 169 => 74 | n => n, fun | 70 => 124 | 9 => 9 | 0 => 0 | 72 => 127 | 37 => 125 | 127 => 146 | 3 => 3 | 5 => 5 | n => n, fun | n => n⟩
theorem bLays : Go.Proofs.Lays.n169 Tryz.prog bRen := {
  mixed := by kernel_rfl
  f169 := Tryz.func74.trans (congrArg some (by kernel_rfl))
  t0 := Tryz.underlying0
  a0 := Tryz.isAgg0
  z0 := Tryz.sizeOf0
  v0 := Tryz.zeroValue0
  t3 := Tryz.underlying3
  a3 := Tryz.isAgg3
  z3 := Tryz.sizeOf3
  v3 := Tryz.zeroValue3
  t9 := Tryz.underlying9
  a9 := Tryz.isAgg9
  z9 := Tryz.sizeOf9
  v9 := Tryz.zeroValue9
  t37 := Tryz.underlying125
  a37 := Tryz.isAgg125
  z37 := Tryz.sizeOf125
  v37 := Tryz.zeroValue125
  t70 := Tryz.underlying124
  a70 := Tryz.isAgg124
  z70 := Tryz.sizeOf124
  v70 := Tryz.zeroValue124
  t72 := Tryz.underlying127
  a72 := Tryz.isAgg127
  z72 := Tryz.sizeOf127
  v72 := Tryz.zeroValue127
  t127 := Tryz.underlying146
  a127 := Tryz.isAgg146
  z127 := Tryz.sizeOf146
  v127 := Tryz.zeroValue146 }
theorem bExtra : Builder.Extra Tryz.prog bRen := {
  sizeBuilder := by kernel_rfl
  liesBuilder := by kernel_rfl
  t5 := Tryz.underlying5
  a5 := Tryz.isAgg5
  z5 := Tryz.sizeOf5
  v5 := Tryz.zeroValue5
  infoByte := by kernel_rfl
  cellsByte := by kernel_rfl
  sizeByte := by kernel_rfl
  neB5 := by decide }

/-- A builder in block b, of the call's own (from B on), that holds these bytes. -/
def Bld (B b : Nat) (l : List UInt8) (w : World) : Prop := Lib.IsBuilder 127 5 B b (Lib.byteCells l) w

theorem Bld.fresh (w : World) : Bld w.heap.size w.heap.size [] (w.alloc (.cells #[.pointer none, .slice none 0 0] 127)) := Lib.fresh_isBuilder _ _ w

theorem bstring_any (B b : Nat) (l : List UInt8) (w : World) (h : Bld B b l w) (hB : B ≤ w.heap.size) :
    Calls Tryz.prog 74 #[.pointer (some ⟨b, 0, none⟩)] w fun e w' => e = .returned (.string (bs l)) ∧ Below B w w' :=
  Any.Builder_String_any bLays bExtra B b l w h hB

set_option maxHeartbeats 1000000 in
set_option maxRecDepth 100000 in
theorem check_used (b : Nat) (w : World) (h0 : w.cell? ⟨b, 0, none⟩ = some (.pointer (some ⟨b, 0, none⟩))) :
    Calls Tryz.prog 96 #[.pointer (some ⟨b, 0, none⟩)] w fun e w' => e = .returned (.tuple #[]) ∧ w' = w := by
  obtain ⟨j, hj, _⟩ := Option.map_eq_some_iff.1 bExtra.sizeBuilder
  have hneq := Lib.run_neq_ptr_same (P := Tryz.prog) w ⟨b, 0, none⟩ Tryz.underlying124 hj
  go_enter Tryz.func96, Tryz.ntmps96
  go_wp2
  go_end0
  exact ⟨rfl, rfl⟩

set_option maxHeartbeats 1000000 in
set_option maxRecDepth 100000 in
theorem check_fresh (b : Nat) (w : World) (h0 : w.cell? ⟨b, 0, none⟩ = some (.pointer none)) (hsh : w.shape? b = some (127, 2)) (hfz : w.frozen? ⟨b, 0, none⟩ = false) :
    Calls Tryz.prog 96 #[.pointer (some ⟨b, 0, none⟩)] w fun e w' => e = .returned (.tuple #[]) ∧ w' = w.setCell ⟨b, 0, none⟩ (.pointer (some ⟨b, 0, none⟩)) := by
  obtain ⟨j, hj, hjs⟩ := Option.map_eq_some_iff.1 bExtra.sizeBuilder
  have e1 := Lib.run_to_unsafe (P := Tryz.prog) w ⟨b, 0, none⟩ Tryz.underlying124 Tryz.underlying171 hj (by rw [hjs]; decide) hsh (Nat.zero_lt_succ 1)
  have e2 := Lib.run_from_unsafe (P := Tryz.prog) w ⟨b, 0, none⟩ Tryz.underlying171 Tryz.underlying124 hj hsh bExtra.liesBuilder
  have e3 := fun args => run_callFunc_extern (w := w) (args := args) Tryz.func128 (by kernel_rfl) (by kernel_rfl) (by kernel_rfl) (e := Extern.AbiNoEscape.same) (by kernel_rfl)
  have e4 := Lib.run_noEscape (P := Tryz.prog) w
  go_enter Tryz.func96, Tryz.ntmps96
  go_wp2
  go_end0
  exact ⟨rfl, rfl⟩

theorem check_any (B b : Nat) (l : List UInt8) (w : World) (h : Bld B b l w) :
    Calls Tryz.prog 96 #[.pointer (some ⟨b, 0, none⟩)] w fun e w' => e = .returned (.tuple #[]) ∧ (Lib.BuilderAt 127 5 B b (.pointer (some ⟨b, 0, none⟩)) (Lib.byteCells l) w' ∧ Below B w w' ∧ ∀ k, k ≠ b → w'.heap[k]? = w.heap[k]?) := by
  rcases h with h | h
  · refine (check_fresh b w h.cell0 h.shape h.frozen0).mono ?_
    rintro e w' ⟨rfl, rfl⟩
    exact ⟨rfl, h.used _, (Below.refl B w).setCell (p := ⟨b, 0, none⟩) h.1 _, fun k hk => Below.heap_setCell _ _ _ _ hk⟩
  · refine (check_used b w h.cell0).mono ?_
    rintro e w' ⟨rfl, rfl⟩
    exact ⟨rfl, h, Below.refl B _, fun k hk => rfl⟩

/-- A block that holds no bytes, and is not the builder's own, is as it was. -/
def Stay (b : Nat) (w w' : World) : Prop := ∀ k cs T fz, k ≠ b → T ≠ 5 → w.heap[k]? = some (.cells cs T fz) → w'.heap[k]? = some (.cells cs T fz)
theorem not_own {e : TypeId} {w : World} {B : Nat} {v : Value} {n : Nat} {xs : List Value} (h : w.ownsRow B e 1 v n xs) {k : Nat} {cs : Array Value} {T : TypeId} {fz : Nat × Nat} (hT : T ≠ e) (hk : w.heap[k]? = some (.cells cs T fz)) : some k ≠ v.ownBlock := by
  rcases h.2 with ⟨rfl, _⟩ | ⟨g, cap, cur, rfl, _, hg, _⟩
  · simp [Value.ownBlock]
  · simp only [Value.ownBlock, ne_eq, Option.some.injEq]
    intro e
    subst e
    rw [hk] at hg
    simp only [Option.some.injEq, Obj.cells.injEq] at hg
    exact hT hg.2.1

set_option maxHeartbeats 1000000 in
set_option maxRecDepth 100000 in
theorem write_any (B b : Nat) (l s : List UInt8) (w : World) (h : Bld B b l w) (hlen : l.length + s.length ≤ 140737488355328) (hBw : B ≤ w.heap.size) :
    Calls Tryz.prog 71 #[.pointer (some ⟨b, 0, none⟩), .string (bs s)] w fun e w' => e = .returned (.tuple #[.int .i64 (s.length : Nat), .nilIface]) ∧ Bld B b (l ++ s) w' ∧ Below B w w' ∧ Stay b w w' := by
  obtain ⟨i0, hi, hz0, hz1, hz2⟩ := info_parts bExtra.infoByte
  have hs := bs_size s
  have hc : Lib.byteCells (l ++ s) = Lib.byteCells l ++ Lib.strCells (bs s) := by simp [Lib.byteCells, Lib.strCells, bs]
  have hll : (Lib.byteCells l).length = l.length := Lib.byteCells_length l
  have hlen' : (Lib.byteCells l).length + (bs s).size ≤ 140737488355328 := by omega
  unfold Bld
  rw [hc, ← hs]
  have h' := check_any B b l w h
  clear hs hc hll hlen h
  generalize Lib.byteCells l = cs at *
  generalize bs s = s at *
  have H := Lib.hid h'
  have HI := Lib.hid (And.intro hi (And.intro hz0 (And.intro hz1 hz2)))
  clear h' hi hz0 hz1 hz2
  go_enter Tryz.func71, Tryz.ntmps71
  go_wp2_with fail
  refine H.out.mono ?_
  rintro e w1 ⟨rfl, h1, hb1, hst1⟩
  obtain ⟨hB, v, hbk, hown, hne⟩ := h1
  have c0 : w1.cell? ⟨b, 0, none⟩ = some (.pointer (some ⟨b, 0, none⟩)) := by rw [Lib.cell_of_heap hbk]; rfl
  have c1 : w1.cell? ⟨b, 1, none⟩ = some v := by rw [Lib.cell_of_heap hbk]; rfl
  go_wp2_with (at_builtin; refine Lib.wpList_append_own_string _ rfl _ _ 125 9 rfl B 5 i0 Tryz.underlying125 Tryz.underlying9 HI.out.1 HI.out.2.1 HI.out.2.2.1 HI.out.2.2.2 _ _ _ rfl hown s rfl ?c3 ?c4 ?c5 ?_)
  case c3 => unfold maxLen; omega
  case c4 => omega
  case c5 => have := hb1.size; omega
  intro v' w2 hown' hgrow _
  have hlt : b < w1.heap.size := by
    rcases Nat.lt_or_ge b w1.heap.size with h' | h'
    · exact h'
    · simp [Array.getElem?_eq_none h'] at hbk
  have hb2 : w2.heap[b]? = some (.cells #[.pointer (some ⟨b, 0, none⟩), v] 127 (0, 0)) := by
    rw [hgrow.block b hlt (fun e => hne e.symm)]
    exact hbk
  have d0 : w2.cell? ⟨b, 0, none⟩ = some (.pointer (some ⟨b, 0, none⟩)) := by rw [Lib.cell_of_heap hb2]; rfl
  have d1 : w2.cell? ⟨b, 1, none⟩ = some v := by rw [Lib.cell_of_heap hb2]; rfl
  have f1 : w2.frozen? ⟨b, 1, none⟩ = false := Lib.frozen_of_heap hb2 1
  obtain ⟨ao, n', cap, rfl⟩ : ∃ ao n' cap, v' = .slice ao n' cap := by
    rcases hown'.2 with ⟨hv, _⟩ | ⟨g, cap, cur, hv, _⟩
    · exact ⟨_, _, _, hv⟩
    · exact ⟨_, _, _, hv⟩
  go_wp2
  go_ret2
  refine ⟨rfl, ?_, ?_, ?_⟩
  · exact .inr (Lib.BuilderAt.put (T := 127) (e := 5) hB hb2 (bs' := cs ++ Lib.strCells s) (by simpa [Lib.strCells_length] using hown') (by decide))
  · exact (hb1.grown hgrow (by have := hb1.size; omega) (fun k hk => (hown.lt k hk).1)).setCell (p := ⟨b, 1, none⟩) hB _
  · intro k cs' T fz hk hT hc
    have hc1 : w1.heap[k]? = some (.cells cs' T fz) := (hst1 k hk).trans hc
    rw [Below.heap_setCell _ _ _ _ hk, hgrow.block k (Array.getElem?_eq_some_iff.1 hc1).1 (not_own hown hT hc1)]
    exact hc1

theorem Bld.later {B b : Nat} {l : List UInt8} {w w' : World} (h : Bld B b l w) (hb : Below w.heap.size w w') : Bld B b l w' := by
  have key : ∀ p, Lib.BuilderAt 127 5 B b p (Lib.byteCells l) w → Lib.BuilderAt 127 5 B b p (Lib.byteCells l) w' := by
    intro p hp
    have hlt := hp.lt
    obtain ⟨h1, v, h2, h3, h4⟩ := hp
    refine ⟨h1, v, by rw [hb.block b hlt]; exact h2, ⟨h3.1, ?_⟩, h4⟩
    have hl := h3.lt
    rcases h3.2 with hn | ⟨g, cap, cur, rfl, hbg, hg, rest⟩
    · exact .inl hn
    · exact .inr ⟨g, cap, cur, rfl, hbg, by rw [hb.block g (hl g rfl).2]; exact hg, rest⟩
  rcases h with h | h
  · exact .inl (key _ h)
  · exact .inr (key _ h)
end Go.Proofs.YtkdidinekoaobaaGreatDoor.J

/- Bytes of the landed code. -/
namespace Go.Proofs.YtkdidinekoaobaaGreatDoor.J
open Go.RowKit
set_option linter.unusedVariables false
set_option linter.unusedSimpArgs false

theorem pput_nat (n : Nat) (w : World) (h : n < 4294967296) :
    Calls Tryz.prog 72 #[.int .u64 (n : Int)] w fun e w' => e = .returned (.string (bs (put n))) ∧ Below w.heap.size w w' := by
  have := put_any (n : Int) w (by omega) (by omega)
  rwa [Int.toNat_natCast] at this

set_option maxRecDepth 100000 in
set_option maxHeartbeats 1000000 in
theorem pbytes_no (m : Mf) (a : Option Addr) (cap : Nat) (w : World) (hin : SgsIn w a m.segs) (hl : m.segs.length ≤ 1000) (hr : ¬ Right m) :
    Calls Tryz.prog 38 #[mfV m.ver a m.segs.length cap] w fun e w' => e = .returned (.tuple #[.string (bs []), .int .i64 1]) ∧ Below w.heap.size w w' := by
  have hb0 : Below w.heap.size w (w.alloc (.cells #[.int .i64 m.ver, .slice a m.segs.length cap] 33)) := (Below.refl _ _).alloc (Nat.le_refl _) _
  have HR := Lib.hid (pright_any m a cap _ (hin.later hb0 (Nat.le_refl _)) hl)
  rw [right_no hr] at HR
  have HB := Lib.hid hb0
  clear hb0 hr hin
  generalize m.segs.length = L at *
  unfold mfV at HR ⊢
  go_enter Tryz.func38, Tryz.ntmps38
  go_wp2_with fail
  refine HR.out.mono ?_
  rintro e w' ⟨rfl, hb⟩
  go_wp2_with fail
  go_ret2
  exact ⟨rfl, HB.out.trans (hb.mono HB.out.size)⟩

set_option maxRecDepth 100000 in
set_option maxHeartbeats 4000000 in
theorem pbytes_yes (m : Mf) (a : Option Addr) (cap : Nat) (w : World) (hin : SgsIn w a m.segs) (hr : Right m) (hw : m.wf) :
    Calls Tryz.prog 38 #[mfV m.ver a m.segs.length cap] w fun e w' => e = .returned (.tuple #[.string (bs (seal4 (enc m))), .int .i64 0]) ∧ Below w.heap.size w w' := by
  have hb0 : Below w.heap.size w (w.alloc (.cells #[.int .i64 m.ver, .slice a m.segs.length cap] 33)) := (Below.refl _ _).alloc (Nat.le_refl _) _
  have HR := Lib.hid (pright_any m a cap _ (hin.later hb0 (Nat.le_refl _)) (by have := hr.2.1; omega))
  rw [right_iff.2 hr] at HR
  have hn0 := heap_alloc_new w (.cells #[.int .i64 m.ver, .slice a m.segs.length cap] 33)
  have h200 := hr.2.1
  obtain ⟨V, hV⟩ : ∃ V : Nat, m.ver = (V : Int) := ⟨m.ver.toNat, by have := hr.1; omega⟩
  have hV9 : V ≤ 999999 := by have := hr.1; omega
  have HP0 := Lib.hid (pre_zero m)
  have HPA := Lib.hid (pre_all m)
  have HPL := Lib.hid (pre_len hr hw)
  have HRT := Lib.hid hr; have HWF := Lib.hid hw
  obtain ⟨L, hL⟩ : ∃ L, L = m.segs.length := ⟨_, rfl⟩
  rw [← hL] at hb0 hn0 h200 HR HPA HPL HP0 ⊢
  rw [hV] at hb0 hn0 HR HP0 ⊢
  rw [Int.toNat_natCast] at HP0
  have HL := Lib.hid hL; have HI := Lib.hid hin; have HB := Lib.hid hb0; have HN := Lib.hid hn0
  have hwl : w.heap.size < (w.alloc (.cells #[.int .i64 (V : Int), .slice a L cap] 33)).heap.size := by simp
  clear hL hin hb0 hn0 hr hw hV
  unfold mfV at HR ⊢
  have lp1 : (put V).length ≤ 5 := put_small (by omega)
  have lp2 : (put L).length ≤ 5 := put_small (by omega)
  have HP1 := Lib.hid (fun W => pput_nat V W (by omega)); have HP2 := Lib.hid (fun W => pput_nat L W (by omega))
  have q1 : IntKind.u64.wrap (V : Int) = (V : Int) := IntWalk.u64_in _ ⟨by omega, by omega⟩
  have q2 : IntKind.u64.wrap (L : Int) = (L : Int) := IntWalk.u64_in _ ⟨by omega, by omega⟩
  go_enter Tryz.func38, Tryz.ntmps38
  go_wp2_with fail
  generalize hW : w.alloc _ = w1 at *
  clear hW
  refine HR.out.mono ?_
  rintro e w2 ⟨rfl, b2⟩
  have hn2 : w2.heap[w.heap.size]? = _ := (b2.block _ hwl).trans HN.out
  have HN2 := Lib.hid hn2
  have HBW := Lib.hid (HB.out.trans (b2.mono HB.out.size) : Below w.heap.size w w2)
  have hwl2 : w.heap.size < w2.heap.size := (Array.getElem?_eq_some_iff.1 hn2).1
  have c0 : ∀ o, (w2.alloc o).cell? ⟨w.heap.size, 0, none⟩ = some (.int .i64 (V : Int)) := fun o => ((((Below.refl w2.heap.size w2).alloc (Nat.le_refl _) o).cell (p := ⟨w.heap.size, 0, none⟩) hwl2)).trans (by rw [cell_of_row w2 w.heap.size 0 _ _ (0, 0) hn2]; rfl)
  have B3 : Below w2.heap.size w2 (w2.alloc (.cells #[.pointer none, .slice none 0 0] 127)) := (Below.refl _ _).alloc (Nat.le_refl _) _
  have F3 := Lib.hid (Bld.fresh w2)
  have HB3 := Lib.hid B3
  clear hn2 b2 HR HN B3
  go_wp2_with fail
  refine (HP1.out _).mono ?_
  rintro e w4 ⟨rfl, b4⟩
  have F4 := Lib.hid (F3.out.later b4)
  have B4 := Lib.hid (HB3.out.trans (b4.mono HB3.out.size))
  clear b4 c0
  go_wp2_with fail
  refine (write_any w2.heap.size w2.heap.size [] (put V) _ F4.out (by simp; omega) B4.out.size).mono ?_
  rintro e w5 ⟨rfl, f5, b5, _⟩
  have F5 := Lib.hid f5
  have B5 := Lib.hid (B4.out.trans b5)
  have c1 : w5.cell? ⟨w.heap.size, 1, none⟩ = some (.slice a L cap) := (Below.cell (p := ⟨w.heap.size, 1, none⟩) B5.out hwl2).trans (by rw [cell_of_row w2 w.heap.size 1 _ _ (0, 0) HN2.out]; rfl)
  clear f5 b5 F4 B4
  go_wp2_with fail
  refine (HP2.out _).mono ?_
  rintro e w6 ⟨rfl, b6⟩
  have F6 := Lib.hid (F5.out.later b6)
  have B6 := Lib.hid (B5.out.trans (b6.mono B5.out.size))
  clear b6 c1 F5 B5
  go_wp2_with fail
  refine (write_any w2.heap.size w2.heap.size ([] ++ put V) (put L) _ F6.out (by simp; omega) B6.out.size).mono ?_
  rintro e w7 ⟨rfl, f7, b7, _⟩
  have F7 := Lib.hid (show Bld w2.heap.size w2.heap.size (pre m 0) w7 by rw [HP0.out]; exact f7)
  have B7 := Lib.hid (B6.out.trans b7)
  have c1 : w7.cell? ⟨w.heap.size, 1, none⟩ = some (.slice a L cap) := (Below.cell (p := ⟨w.heap.size, 1, none⟩) B7.out hwl2).trans (by rw [cell_of_row w2 w.heap.size 1 _ _ (0, 0) HN2.out]; rfl)
  clear f7 b7 F6 B6
  go_wp2_with fail
  clear c1 q1 q2
  go_loopg [24] L (fun g it wr => ∃ i : Nat, i + g = L ∧ it = .int .i64 i ∧ Bld w2.heap.size w2.heap.size (pre m i) wr ∧ Below w2.heap.size w2 wr)
  case atStart => exact ⟨0, by omega, rfl, F7.out, B7.out⟩
  case round =>
    obtain ⟨i, hi, rfl, hf, hb⟩ := hrel
    have hpl := HPL.out i (by have := HL.out; omega)
    have HF := Lib.hid hf; have HBR := Lib.hid hb
    have hbz := hb.size
    clear hf hb F7 B7
    by_cases hlt : i < L
    · obtain ⟨s, hs⟩ : ∃ s, m.segs[i]? = some s := ⟨m.segs[i]'(by have := HL.out; omega), List.getElem?_eq_getElem _⟩
      have hm : s ∈ m.segs := List.mem_of_getElem? hs
      have hbd := sok_mem HRT.out.2.2 hm
      have hsm := HWF.out s hm
      obtain ⟨b, off, rfl, hbl, d0, d1, d2⟩ := HI.out.at (HBW.out.trans (HBR.out.mono HBW.out.size)) (Nat.le_refl _) i s hs
      have HPS := Lib.hid (pre_succ hs)
      clear hs hm
      obtain ⟨⟨n1, n2⟩, z1, z2⟩ := hbd
      obtain ⟨sn, ss, sc⟩ := s
      simp only at n1 n2 z1 z2 hsm d0 d1 d2 HPS
      obtain ⟨N, rfl⟩ : ∃ N : Nat, sn = (N : Int) := ⟨sn.toNat, by omega⟩
      obtain ⟨Z, rfl⟩ : ∃ Z : Nat, ss = (Z : Int) := ⟨ss.toNat, by omega⟩
      rw [Int.toNat_natCast, Int.toNat_natCast] at HPS
      have l1 : (put N).length ≤ 5 := put_small (by omega)
      have l2 : (put Z).length ≤ 5 := put_small (by omega)
      have l3 : (put sc).length ≤ 5 := put_small (by omega)
      have H1 := Lib.hid (fun W => pput_nat N W (by omega)); have H2 := Lib.hid (fun W => pput_nat Z W (by omega)); have H3 := Lib.hid (fun W => pput_nat sc W (by omega))
      have q1 : IntKind.u64.wrap (N : Int) = (N : Int) := IntWalk.u64_in _ ⟨by omega, by omega⟩
      have q2 : IntKind.u64.wrap (Z : Int) = (Z : Int) := IntWalk.u64_in _ ⟨by omega, by omega⟩
      have q3 : IntKind.u64.wrap (sc : Int) = (sc : Int) := IntWalk.u64_in _ ⟨by omega, by omega⟩
      have HNA := Lib.hid (heap_alloc_new wr (.cells #[.int .i64 (N : Int), .int .i64 (Z : Int), .int .u32 (sc : Int)] 51))
      have hba : Below wr.heap.size wr (wr.alloc (.cells #[.int .i64 (N : Int), .int .i64 (Z : Int), .int .u32 (sc : Int)] 51)) := (Below.refl _ _).alloc (Nat.le_refl _) _
      have F1 := Lib.hid (HF.out.later hba)
      have B1 := Lib.hid (HBR.out.trans (hba.mono hbz))
      clear hba
      go_wp2_with fail
      refine (H1.out _).mono ?_
      generalize wr.alloc _ = w8 at *
      have hl8 : wr.heap.size < w8.heap.size := (Array.getElem?_eq_some_iff.1 HNA.out).1
      have hgb : wr.heap.size ≠ w2.heap.size := by
        have : w2.heap.size < wr.heap.size := by
          rcases HF.out with h | h <;> exact h.lt
        omega
      rintro e w9 ⟨rfl, b9⟩
      have F9 := Lib.hid (F1.out.later b9)
      have B9 := Lib.hid (B1.out.trans (b9.mono B1.out.size))
      have HN9 := Lib.hid ((b9.block _ hl8).trans HNA.out)
      clear b9
      go_wp2_with fail
      refine (write_any w2.heap.size w2.heap.size (pre m i) (put N) _ F9.out (by omega) B9.out.size).mono ?_
      rintro e w10 ⟨rfl, f10, b10, s10⟩
      have hn10 := s10 _ _ _ _ hgb (by decide) HN9.out
      have F10 := Lib.hid f10
      have B10 := Lib.hid (B9.out.trans b10)
      obtain ⟨e0, e1, e2⟩ := three_cells hn10
      have HN10 := Lib.hid hn10
      clear f10 b10 s10 hn10 F9 B9 HN9
      go_wp2_with fail
      refine (H2.out _).mono ?_
      rintro e w11 ⟨rfl, b11⟩
      have hl10 : wr.heap.size < w10.heap.size := (Array.getElem?_eq_some_iff.1 HN10.out).1
      have F11 := Lib.hid (F10.out.later b11)
      have B11 := Lib.hid (B10.out.trans (b11.mono B10.out.size))
      have HN11 := Lib.hid ((b11.block _ hl10).trans HN10.out)
      clear b11 e0 e1 e2 F10 B10 HN10
      go_wp2_with fail
      refine (write_any w2.heap.size w2.heap.size (pre m i ++ put N) (put Z) _ F11.out (by rw [List.length_append]; omega) B11.out.size).mono ?_
      rintro e w12 ⟨rfl, f12, b12, s12⟩
      have hn12 := s12 _ _ _ _ hgb (by decide) HN11.out
      have F12 := Lib.hid f12
      have B12 := Lib.hid (B11.out.trans b12)
      obtain ⟨e0, e1, e2⟩ := three_cells hn12
      clear f12 b12 s12 hn12 F11 B11 HN11
      go_wp2_with fail
      refine (H3.out _).mono ?_
      rintro e w13 ⟨rfl, b13⟩
      have F13 := Lib.hid (F12.out.later b13)
      have B13 := Lib.hid (B12.out.trans (b13.mono B12.out.size))
      clear b13 e0 e1 e2 F12 B12
      go_wp2_with fail
      refine (write_any w2.heap.size w2.heap.size (pre m i ++ put N ++ put Z) (put sc) _ F13.out (by rw [List.length_append, List.length_append]; omega) B13.out.size).mono ?_
      rintro e w14 ⟨rfl, f14, b14, _⟩
      have F14 := Lib.hid f14
      have B14 := Lib.hid (B13.out.trans b14)
      clear f14 b14 F13 B13
      go_wp2_with fail
      go_roundg (gk - 1)
      case measure => omega
      case rel => exact ⟨i + 1, by omega, by go_num, by rw [HPS.out]; exact F14.out, B14.out⟩
    · obtain rfl : i = L := by omega
      have HS := Lib.hid (fun W => seal_any (bs (enc m)) W (by rw [bs_size, ← HPA.out]; omega))
      rw [bs_list] at HS
      have HST := Lib.hid (fun W hW hB => bstring_any w2.heap.size w2.heap.size (pre m i) W hW hB)
      rw [HPA.out] at HST
      have F0 : Hid (Bld w2.heap.size w2.heap.size (enc m) wr) := Lib.hid (by rw [← HPA.out]; exact HF.out)
      clear HF hpl
      go_wp2_with fail
      refine (HST.out _ F0.out hbz).mono ?_
      rintro e w8 ⟨rfl, b8⟩
      have B8 := Lib.hid (HBR.out.trans b8)
      clear b8
      go_wp2_with fail
      refine (HS.out _).mono ?_
      rintro e w9 ⟨rfl, b9⟩
      have B9 := Lib.hid (HBW.out.trans ((B8.out.trans (b9.mono B8.out.size)).mono HBW.out.size))
      clear b9
      go_wp2_with fail
      go_ret2
      exact ⟨rfl, B9.out⟩
theorem pbytes_any (m : Mf) (a : Option Addr) (cap : Nat) (w : World) (hin : SgsIn w a m.segs) (hl : m.segs.length ≤ 1000) (hw : m.wf) :
    Calls Tryz.prog 38 #[mfV m.ver a m.segs.length cap] w fun e w' => e = .returned (.tuple #[.string (bs (mbs m).1), .int .i64 ((mbs m).2 : Nat)]) ∧ Below w.heap.size w w' := by
  by_cases hr : Right m
  · rw [mbs_yes hr]; exact pbytes_yes m a cap w hin hr hw
  · rw [mbs_no hr]; exact pbytes_no m a cap w hin hl hr
end Go.Proofs.YtkdidinekoaobaaGreatDoor.J

/- The program's manifests: all that is asked of them. -/
namespace Go.Proofs.YtkdidinekoaobaaGreatDoor.J

theorem manC : ManC := {
  right := fun hin hl _ => pright_any _ _ _ _ hin hl
  bytes := fun hin hl hf => pbytes_any _ _ _ _ hin hl hf.wf
  read := fun hb => pread_any _ _ hb
  name := fun hV hv => pname_any _ _ hV hv
  ver := fun hV hs => pver_any _ _ hV hs
  object := fun hV hv => pobject_any _ _ hV hv
  of := fun hn hb => pof_any _ _ _ hn hb }
end Go.Proofs.YtkdidinekoaobaaGreatDoor.J
