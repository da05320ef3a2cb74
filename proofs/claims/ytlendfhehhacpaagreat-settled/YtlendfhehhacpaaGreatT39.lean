/- A part. -/
import Derived.Shelf.Strings.OnBuilder
import Derived.Shelf.Strings.SlTrimAscii
import Derived.Shelf.Strings.Split
import Derived.Shelf.Strings.Prefix
import Derived.Shelf.Strings.Repeat
import Derived.Test.YtlendfhehhacpaaGreatT34
set_option linter.unusedVariables false
set_option linter.unusedSimpArgs false
set_option maxRecDepth 100000
set_option maxHeartbeats 8000000
namespace Go.Proofs.YtlendfhehhacpaaGreat
open Go.Shelf
def lays156_ren : Go.Shelf.Ren := ⟨fun | 156 => 265 | 165 => 234 | 166 => 235 | 169 => 237 | 240 => 280 | 241 => 281 | 276 => 295 | 277 => 296 | n => n, fun | 31 => 237 | 9 => 9 | 3 => 3 | 4 => 4 | 0 => 0 | 20 => 20 | 72 => 267 | 76 => 270 | 70 => 265 | 37 => 48 | 75 => 269 | 127 => 166 | 164 => 309 | 5 => 5 | 80 => 169 | n => n, fun | n => n⟩
theorem lays156 : Go.Proofs.Lays.n156 Tryz.prog lays156_ren := {
 mixed := by kernel_rfl
 f156 := Tryz.func265.trans (congrArg some qk)
 f165 := Tryz.func234.trans (congrArg some qk)
 f166 := Tryz.func235.trans (congrArg some qk)
 f169 := Tryz.func237.trans (congrArg some qk)
 f240 := Tryz.func280.trans (congrArg some qk)
 f241 := Tryz.func281.trans (congrArg some qk)
 f276 := Tryz.func295.trans (congrArg some qk)
 f277 := Tryz.func296.trans (congrArg some qk)
 t0 := Tryz.underlying0
 a0 := Tryz.isAgg0
 z0 := Tryz.sizeOf0
 v0 := Tryz.zeroValue0
 t3 := Tryz.underlying3
 a3 := Tryz.isAgg3
 z3 := Tryz.sizeOf3
 v3 := Tryz.zeroValue3
 t4 := Tryz.underlying4
 a4 := Tryz.isAgg4
 z4 := Tryz.sizeOf4
 v4 := Tryz.zeroValue4
 t9 := Tryz.underlying9
 a9 := Tryz.isAgg9
 z9 := Tryz.sizeOf9
 v9 := Tryz.zeroValue9
 t20 := Tryz.underlying20
 a20 := Tryz.isAgg20
 z20 := Tryz.sizeOf20
 v20 := Tryz.zeroValue20
 t31 := Tryz.underlying237
 a31 := Tryz.isAgg237
 z31 := Tryz.sizeOf237
 v31 := Tryz.zeroValue237
 t37 := Tryz.underlying48
 a37 := Tryz.isAgg48
 z37 := Tryz.sizeOf48
 v37 := Tryz.zeroValue48
 t70 := Tryz.underlying265
 a70 := Tryz.isAgg265
 z70 := Tryz.sizeOf265
 v70 := Tryz.zeroValue265
 t72 := Tryz.underlying267
 a72 := Tryz.isAgg267
 z72 := Tryz.sizeOf267
 v72 := Tryz.zeroValue267
 t75 := Tryz.underlying269
 a75 := Tryz.isAgg269
 z75 := Tryz.sizeOf269
 v75 := Tryz.zeroValue269
 t76 := Tryz.underlying270
 a76 := Tryz.isAgg270
 z76 := Tryz.sizeOf270
 v76 := Tryz.zeroValue270
 t127 := Tryz.underlying166
 a127 := Tryz.isAgg166
 z127 := Tryz.sizeOf166
 v127 := Tryz.zeroValue166
 t164 := Tryz.underlying309
 a164 := Tryz.isAgg309
 z164 := Tryz.sizeOf309
 v164 := Tryz.zeroValue309 }
theorem Builder_Extra_156 : Builder.Extra Tryz.prog lays156_ren := {
 sizeBuilder := by kernel_rfl
 liesBuilder := by kernel_rfl
 t5 := Tryz.underlying5
 a5 := Tryz.isAgg5
 z5 := Tryz.sizeOf5
 v5 := Tryz.zeroValue5
 infoByte := by kernel_rfl
 cellsByte := by kernel_rfl
 sizeByte := by kernel_rfl
 neB5 := by decide }
def lays161_ren : Go.Shelf.Ren := ⟨fun | 161 => 230 | 231 => 270 | 227 => 271 | 233 => 272 | 235 => 273 | 228 => 286 | 197 => 290 | 151 => 291 | 260 => 301 | 152 => 284 | 137 => 229 | 119 => 297 | 224 => 298 | 225 => 299 | 217 => 269 | 266 => 289 | n => n, fun | 9 => 9 | 4 => 4 | 3 => 3 | 5 => 5 | 117 => 293 | 116 => 292 | 0 => 0 | 124 => 296 | 105 => 306 | 21 => 21 | 119 => 313 | 46 => 262 | 139 => 316 | 138 => 315 | n => n, fun | 3 => 1 | 4 => 2 | n => n⟩
theorem lays161 : Go.Proofs.Lays.n161 Tryz.prog lays161_ren := {
 mixed := by kernel_rfl
 f119 := Tryz.func297.trans (congrArg some qk)
 f137 := Tryz.func229.trans (congrArg some qk)
 f151 := Tryz.func291.trans (congrArg some qk)
 f152 := Tryz.func284.trans (congrArg some qk)
 f161 := Tryz.func230.trans (congrArg some qk)
 f197 := Tryz.func290.trans (congrArg some qk)
 f217 := Tryz.func269.trans (congrArg some qk)
 f224 := Tryz.func298.trans (congrArg some qk)
 f225 := Tryz.func299.trans (congrArg some qk)
 f227 := Tryz.func271.trans (congrArg some qk)
 f228 := Tryz.func286.trans (congrArg some qk)
 f231 := Tryz.func270.trans (congrArg some qk)
 f233 := Tryz.func272.trans (congrArg some qk)
 f235 := Tryz.func273.trans (congrArg some qk)
 f260 := Tryz.func301.trans (congrArg some qk)
 f266 := Tryz.func289.trans (congrArg some qk)
 t0 := Tryz.underlying0
 a0 := Tryz.isAgg0
 z0 := Tryz.sizeOf0
 v0 := Tryz.zeroValue0
 t3 := Tryz.underlying3
 a3 := Tryz.isAgg3
 z3 := Tryz.sizeOf3
 v3 := Tryz.zeroValue3
 t4 := Tryz.underlying4
 a4 := Tryz.isAgg4
 z4 := Tryz.sizeOf4
 v4 := Tryz.zeroValue4
 t5 := Tryz.underlying5
 a5 := Tryz.isAgg5
 z5 := Tryz.sizeOf5
 v5 := Tryz.zeroValue5
 t9 := Tryz.underlying9
 a9 := Tryz.isAgg9
 z9 := Tryz.sizeOf9
 v9 := Tryz.zeroValue9
 t21 := Tryz.underlying21
 a21 := Tryz.isAgg21
 z21 := Tryz.sizeOf21
 v21 := Tryz.zeroValue21
 t46 := Tryz.underlying262
 a46 := Tryz.isAgg262
 z46 := Tryz.sizeOf262
 v46 := Tryz.zeroValue262
 t105 := Tryz.underlying306
 a105 := Tryz.isAgg306
 z105 := Tryz.sizeOf306
 v105 := Tryz.zeroValue306
 t116 := Tryz.underlying292
 a116 := Tryz.isAgg292
 z116 := Tryz.sizeOf292
 t117 := Tryz.underlying293
 a117 := Tryz.isAgg293
 z117 := Tryz.sizeOf293
 v117 := Tryz.zeroValue293
 t119 := Tryz.underlying313
 a119 := Tryz.isAgg313
 z119 := Tryz.sizeOf313
 t124 := Tryz.underlying296
 a124 := Tryz.isAgg296
 z124 := Tryz.sizeOf296
 v124 := Tryz.zeroValue296
 t138 := Tryz.underlying315
 a138 := Tryz.isAgg315
 z138 := Tryz.sizeOf315
 v138 := Tryz.zeroValue315
 t139 := Tryz.underlying316
 a139 := Tryz.isAgg316
 z139 := Tryz.sizeOf316
 v139 := Tryz.zeroValue316
 g3 := by kernel_rfl
 g4 := by kernel_rfl }
def lays143_ren : Go.Shelf.Ren := ⟨fun | 143 => 276 | 219 => 294 | 217 => 269 | 225 => 299 | 224 => 298 | 267 => 302 | 266 => 289 | 314 => 303 | n => n, fun | 9 => 9 | 3 => 3 | 4 => 4 | 5 => 5 | 46 => 262 | 146 => 298 | 51 => 175 | n => n, fun | 1 => 0 | n => n⟩
theorem lays143 : Go.Proofs.Lays.n143 Tryz.prog lays143_ren := {
 mixed := by kernel_rfl
 f143 := Tryz.func276.trans (congrArg some qk)
 f217 := Tryz.func269.trans (congrArg some qk)
 f219 := Tryz.func294.trans (congrArg some qk)
 f224 := Tryz.func298.trans (congrArg some qk)
 f225 := Tryz.func299.trans (congrArg some qk)
 f266 := Tryz.func289.trans (congrArg some qk)
 f267 := Tryz.func302.trans (congrArg some qk)
 f314 := Tryz.func303.trans (congrArg some qk)
 t3 := Tryz.underlying3
 a3 := Tryz.isAgg3
 z3 := Tryz.sizeOf3
 v3 := Tryz.zeroValue3
 t4 := Tryz.underlying4
 a4 := Tryz.isAgg4
 z4 := Tryz.sizeOf4
 v4 := Tryz.zeroValue4
 t5 := Tryz.underlying5
 a5 := Tryz.isAgg5
 z5 := Tryz.sizeOf5
 v5 := Tryz.zeroValue5
 t9 := Tryz.underlying9
 a9 := Tryz.isAgg9
 z9 := Tryz.sizeOf9
 v9 := Tryz.zeroValue9
 t46 := Tryz.underlying262
 a46 := Tryz.isAgg262
 z46 := Tryz.sizeOf262
 v46 := Tryz.zeroValue262
 t51 := Tryz.underlying175
 a51 := Tryz.isAgg175
 z51 := Tryz.sizeOf175
 v51 := Tryz.zeroValue175
 t146 := Tryz.underlying298
 a146 := Tryz.isAgg298
 z146 := Tryz.sizeOf298
 v146 := Tryz.zeroValue298
 g1 := by kernel_rfl }
def lays138_ren : Go.Shelf.Ren := ⟨fun | 138 => 275 | 195 => 292 | 218 => 293 | 143 => 276 | 219 => 294 | 217 => 269 | 225 => 299 | 224 => 298 | 267 => 302 | 266 => 289 | 314 => 303 | n => n, fun | 9 => 9 | 3 => 3 | 4 => 4 | 5 => 5 | 0 => 0 | 46 => 262 | 146 => 298 | 51 => 175 | n => n, fun | 1 => 0 | n => n⟩
theorem lays138 : Go.Proofs.Lays.n138 Tryz.prog lays138_ren := {
 mixed := by kernel_rfl
 f138 := Tryz.func275.trans (congrArg some qk)
 f143 := Tryz.func276.trans (congrArg some qk)
 f195 := Tryz.func292.trans (congrArg some qk)
 f217 := Tryz.func269.trans (congrArg some qk)
 f218 := Tryz.func293.trans (congrArg some qk)
 f219 := Tryz.func294.trans (congrArg some qk)
 f224 := Tryz.func298.trans (congrArg some qk)
 f225 := Tryz.func299.trans (congrArg some qk)
 f266 := Tryz.func289.trans (congrArg some qk)
 f267 := Tryz.func302.trans (congrArg some qk)
 f314 := Tryz.func303.trans (congrArg some qk)
 t0 := Tryz.underlying0
 a0 := Tryz.isAgg0
 z0 := Tryz.sizeOf0
 v0 := Tryz.zeroValue0
 t3 := Tryz.underlying3
 a3 := Tryz.isAgg3
 z3 := Tryz.sizeOf3
 v3 := Tryz.zeroValue3
 t4 := Tryz.underlying4
 a4 := Tryz.isAgg4
 z4 := Tryz.sizeOf4
 v4 := Tryz.zeroValue4
 t5 := Tryz.underlying5
 a5 := Tryz.isAgg5
 z5 := Tryz.sizeOf5
 v5 := Tryz.zeroValue5
 t9 := Tryz.underlying9
 a9 := Tryz.isAgg9
 z9 := Tryz.sizeOf9
 v9 := Tryz.zeroValue9
 t46 := Tryz.underlying262
 a46 := Tryz.isAgg262
 z46 := Tryz.sizeOf262
 v46 := Tryz.zeroValue262
 t51 := Tryz.underlying175
 a51 := Tryz.isAgg175
 z51 := Tryz.sizeOf175
 v51 := Tryz.zeroValue175
 t146 := Tryz.underlying298
 a146 := Tryz.isAgg298
 z146 := Tryz.sizeOf298
 v146 := Tryz.zeroValue298
 g1 := by kernel_rfl }
def lays102_ren : Go.Shelf.Ren := ⟨fun | 102 => 267 | 209 => 288 | 207 => 300 | n => n, fun | 9 => 9 | 4 => 4 | 3 => 3 | n => n, fun | n => n⟩
theorem lays102 : Go.Proofs.Lays.n102 Tryz.prog lays102_ren := {
 mixed := by kernel_rfl
 f102 := Tryz.func267.trans (congrArg some qk)
 f207 := Tryz.func300.trans (congrArg some qk)
 f209 := Tryz.func288.trans (congrArg some qk)
 t3 := Tryz.underlying3
 a3 := Tryz.isAgg3
 z3 := Tryz.sizeOf3
 v3 := Tryz.zeroValue3
 t4 := Tryz.underlying4
 a4 := Tryz.isAgg4
 z4 := Tryz.sizeOf4
 v4 := Tryz.zeroValue4
 t9 := Tryz.underlying9
 a9 := Tryz.isAgg9
 z9 := Tryz.sizeOf9
 v9 := Tryz.zeroValue9 }
def lays221_ren : Go.Shelf.Ren := ⟨fun | 221 => 231 | 268 => 274 | 138 => 275 | 143 => 276 | 195 => 292 | 197 => 290 | 218 => 293 | 219 => 294 | 260 => 301 | 217 => 269 | 225 => 299 | 224 => 298 | 267 => 302 | 266 => 289 | 314 => 303 | n => n, fun | 9 => 9 | 3 => 3 | 31 => 237 | 4 => 4 | 0 => 0 | 105 => 306 | 21 => 21 | 5 => 5 | 46 => 262 | 119 => 313 | 139 => 316 | 138 => 315 | 146 => 298 | 51 => 175 | n => n, fun | 1 => 0 | 3 => 1 | 4 => 2 | n => n⟩
theorem lays221 : Go.Proofs.Lays.n221 Tryz.prog lays221_ren := {
 mixed := by kernel_rfl
 f138 := Tryz.func275.trans (congrArg some qk)
 f143 := Tryz.func276.trans (congrArg some qk)
 f195 := Tryz.func292.trans (congrArg some qk)
 f197 := Tryz.func290.trans (congrArg some qk)
 f217 := Tryz.func269.trans (congrArg some qk)
 f218 := Tryz.func293.trans (congrArg some qk)
 f219 := Tryz.func294.trans (congrArg some qk)
 f221 := Tryz.func231.trans (congrArg some qk)
 f224 := Tryz.func298.trans (congrArg some qk)
 f225 := Tryz.func299.trans (congrArg some qk)
 f260 := Tryz.func301.trans (congrArg some qk)
 f266 := Tryz.func289.trans (congrArg some qk)
 f267 := Tryz.func302.trans (congrArg some qk)
 f268 := Tryz.func274.trans (congrArg some qk)
 f314 := Tryz.func303.trans (congrArg some qk)
 t0 := Tryz.underlying0
 a0 := Tryz.isAgg0
 z0 := Tryz.sizeOf0
 v0 := Tryz.zeroValue0
 t3 := Tryz.underlying3
 a3 := Tryz.isAgg3
 z3 := Tryz.sizeOf3
 v3 := Tryz.zeroValue3
 t4 := Tryz.underlying4
 a4 := Tryz.isAgg4
 z4 := Tryz.sizeOf4
 v4 := Tryz.zeroValue4
 t5 := Tryz.underlying5
 a5 := Tryz.isAgg5
 z5 := Tryz.sizeOf5
 v5 := Tryz.zeroValue5
 t9 := Tryz.underlying9
 a9 := Tryz.isAgg9
 z9 := Tryz.sizeOf9
 v9 := Tryz.zeroValue9
 t21 := Tryz.underlying21
 a21 := Tryz.isAgg21
 z21 := Tryz.sizeOf21
 v21 := Tryz.zeroValue21
 t31 := Tryz.underlying237
 a31 := Tryz.isAgg237
 z31 := Tryz.sizeOf237
 v31 := Tryz.zeroValue237
 t46 := Tryz.underlying262
 a46 := Tryz.isAgg262
 z46 := Tryz.sizeOf262
 v46 := Tryz.zeroValue262
 t51 := Tryz.underlying175
 a51 := Tryz.isAgg175
 z51 := Tryz.sizeOf175
 v51 := Tryz.zeroValue175
 t105 := Tryz.underlying306
 a105 := Tryz.isAgg306
 z105 := Tryz.sizeOf306
 v105 := Tryz.zeroValue306
 t119 := Tryz.underlying313
 a119 := Tryz.isAgg313
 z119 := Tryz.sizeOf313
 t138 := Tryz.underlying315
 a138 := Tryz.isAgg315
 z138 := Tryz.sizeOf315
 v138 := Tryz.zeroValue315
 t139 := Tryz.underlying316
 a139 := Tryz.isAgg316
 z139 := Tryz.sizeOf316
 v139 := Tryz.zeroValue316
 t146 := Tryz.underlying298
 a146 := Tryz.isAgg298
 z146 := Tryz.sizeOf298
 v146 := Tryz.zeroValue298
 g1 := by kernel_rfl
 g3 := by kernel_rfl
 g4 := by kernel_rfl }
def lays105_ren : Go.Shelf.Ren := ⟨fun | 105 => 201 | 212 => 232 | 99 => 233 | 165 => 234 | 166 => 235 | 170 => 236 | 169 => 237 | 263 => 277 | 264 => 278 | 206 => 279 | 240 => 280 | 241 => 281 | 276 => 295 | 277 => 296 | n => n, fun | 9 => 9 | 3 => 3 | 4 => 4 | 20 => 20 | 0 => 0 | 46 => 262 | 109 => 263 | 5 => 5 | 72 => 267 | 76 => 270 | 51 => 175 | 146 => 298 | 53 => 300 | 148 => 301 | 70 => 265 | 37 => 48 | 75 => 269 | 127 => 166 | 164 => 309 | 80 => 169 | n => n, fun | n => n⟩
theorem lays105 : Go.Proofs.Lays.n105 Tryz.prog lays105_ren := {
 mixed := by kernel_rfl
 f99 := Tryz.func233.trans (congrArg some qk)
 f105 := Tryz.func201.trans (congrArg some qk)
 f165 := Tryz.func234.trans (congrArg some qk)
 f166 := Tryz.func235.trans (congrArg some qk)
 f169 := Tryz.func237.trans (congrArg some qk)
 f170 := Tryz.func236.trans (congrArg some qk)
 f206 := Tryz.func279.trans (congrArg some qk)
 f212 := Tryz.func232.trans (congrArg some qk)
 f240 := Tryz.func280.trans (congrArg some qk)
 f241 := Tryz.func281.trans (congrArg some qk)
 f263 := Tryz.func277.trans (congrArg some qk)
 f264 := Tryz.func278.trans (congrArg some qk)
 f276 := Tryz.func295.trans (congrArg some qk)
 f277 := Tryz.func296.trans (congrArg some qk)
 t0 := Tryz.underlying0
 a0 := Tryz.isAgg0
 z0 := Tryz.sizeOf0
 v0 := Tryz.zeroValue0
 t3 := Tryz.underlying3
 a3 := Tryz.isAgg3
 z3 := Tryz.sizeOf3
 v3 := Tryz.zeroValue3
 t4 := Tryz.underlying4
 a4 := Tryz.isAgg4
 z4 := Tryz.sizeOf4
 v4 := Tryz.zeroValue4
 t5 := Tryz.underlying5
 a5 := Tryz.isAgg5
 z5 := Tryz.sizeOf5
 v5 := Tryz.zeroValue5
 t9 := Tryz.underlying9
 a9 := Tryz.isAgg9
 z9 := Tryz.sizeOf9
 v9 := Tryz.zeroValue9
 t20 := Tryz.underlying20
 a20 := Tryz.isAgg20
 z20 := Tryz.sizeOf20
 v20 := Tryz.zeroValue20
 t37 := Tryz.underlying48
 a37 := Tryz.isAgg48
 z37 := Tryz.sizeOf48
 v37 := Tryz.zeroValue48
 t46 := Tryz.underlying262
 a46 := Tryz.isAgg262
 z46 := Tryz.sizeOf262
 v46 := Tryz.zeroValue262
 t51 := Tryz.underlying175
 a51 := Tryz.isAgg175
 z51 := Tryz.sizeOf175
 v51 := Tryz.zeroValue175
 t53 := Tryz.underlying300
 a53 := Tryz.isAgg300
 z53 := Tryz.sizeOf300
 v53 := Tryz.zeroValue300
 t70 := Tryz.underlying265
 a70 := Tryz.isAgg265
 z70 := Tryz.sizeOf265
 v70 := Tryz.zeroValue265
 t72 := Tryz.underlying267
 a72 := Tryz.isAgg267
 z72 := Tryz.sizeOf267
 v72 := Tryz.zeroValue267
 t75 := Tryz.underlying269
 a75 := Tryz.isAgg269
 z75 := Tryz.sizeOf269
 v75 := Tryz.zeroValue269
 t76 := Tryz.underlying270
 a76 := Tryz.isAgg270
 z76 := Tryz.sizeOf270
 v76 := Tryz.zeroValue270
 t109 := Tryz.underlying263
 a109 := Tryz.isAgg263
 z109 := Tryz.sizeOf263
 v109 := Tryz.zeroValue263
 t127 := Tryz.underlying166
 a127 := Tryz.isAgg166
 z127 := Tryz.sizeOf166
 v127 := Tryz.zeroValue166
 t146 := Tryz.underlying298
 a146 := Tryz.isAgg298
 z146 := Tryz.sizeOf298
 v146 := Tryz.zeroValue298
 t148 := Tryz.underlying301
 a148 := Tryz.isAgg301
 z148 := Tryz.sizeOf301
 v148 := Tryz.zeroValue301
 t164 := Tryz.underlying309
 a164 := Tryz.isAgg309
 z164 := Tryz.sizeOf309
 v164 := Tryz.zeroValue309 }
theorem Builder_Extra_105 : Builder.Extra Tryz.prog lays105_ren := {
 sizeBuilder := by kernel_rfl
 liesBuilder := by kernel_rfl
 t5 := Tryz.underlying5
 a5 := Tryz.isAgg5
 z5 := Tryz.sizeOf5
 v5 := Tryz.zeroValue5
 infoByte := by kernel_rfl
 cellsByte := by kernel_rfl
 sizeByte := by kernel_rfl
 neB5 := by decide }
end Go.Proofs.YtlendfhehhacpaaGreat
namespace Go.Proofs.YtlendfhehhacpaaGreat
open Go.RowKit Nib Tryz
structure Spo (w : World) (b : Nat) (s : ByteArray) (p v : Int) : Prop where
 c0 : w.cell? ⟨b, 0, none⟩ = some (.string s)
 c1 : w.cell? ⟨b, 1, none⟩ = some (.int .i64 p)
 c2 : w.cell? ⟨b, 2, none⟩ = some (.int .i64 v)
 fz : ∀ o, w.frozen? ⟨b, o, none⟩ = false
 lt : b < w.heap.size
theorem Spo.of_block {w w' : World} {b : Nat} {s : ByteArray} {p v : Int} (h : Spo w b s p v) (hb : w'.heap[b]? = w.heap[b]?) (hz : w.heap.size ≤ w'.heap.size) : Spo w' b s p v := by
 have hc : ∀ o, w'.cell? ⟨b, o, none⟩ = w.cell? ⟨b, o, none⟩ := fun o => World.cell?_of_block (w := w) hb
 have hf : ∀ o, w'.frozen? ⟨b, o, none⟩ = w.frozen? ⟨b, o, none⟩ := fun o => World.frozen?_of_block (w := w) hb
 exact ⟨(hc _).trans h.c0, (hc _).trans h.c1, (hc _).trans h.c2, fun o => (hf o).trans (h.fz o), Nat.lt_of_lt_of_le h.lt hz⟩
theorem Spo.below {w w' : World} {b : Nat} {s : ByteArray} {p v : Int} (h : Spo w b s p v) (hb : Below w.heap.size w w') : Spo w' b s p v := h.of_block (hb.block b h.lt) hb.size
theorem Spo.alloc {w : World} {b : Nat} {s : ByteArray} {p v : Int} (h : Spo w b s p v) (o : Obj) : Spo (w.alloc o) b s p v := h.below ((Below.refl _ _).alloc (Nat.le_refl _) _)
theorem Spo.drewN {w : World} {b : Nat} {s : ByteArray} {p v : Int} (h : Spo w b s p v) (k : Nat) : Spo (w.drewN k) b s p v := h.below (below_drewN (Below.refl _ _) _)
theorem Spo.drew {w : World} {b : Nat} {s : ByteArray} {p v : Int} (h : Spo w b s p v) : Spo w.drew b s p v := h.below (Below.refl _ _).drew
theorem Spo.other {w : World} {b : Nat} {s : ByteArray} {p v : Int} (h : Spo w b s p v) {q : Addr} (hp : b ≠ q.block) (u : Value) : Spo (w.setCell q u) b s p v :=
 h.of_block (Below.heap_setCell _ _ _ _ hp) (by simp [World.setCell])
theorem Spo.new (w : World) (s : ByteArray) (p v : Int) (t : TypeId) : Spo (w.alloc (.cells #[.string s, .int .i64 p, .int .i64 v] t)) w.heap.size s p v :=
 ⟨by simp, by simp, by simp, by simp, by simp⟩
theorem qSp {w : World} {b : Nat} {s : ByteArray} {p v : Int} (h : Spo w b s p v := by repeat (with_reducible first | assumption | refine Spo.other ?_ (by first | omega | (simp <;> omega)) _ | refine Spo.alloc ?_ _ | refine Spo.drewN ?_ _ | refine Spo.drew ?_ | refine Spo.below ?_ (by with_reducible assumption))) : Spo w b s p v := h
def rep (s : ByteArray) (c : Nat) : ByteArray := ⟨(Lib.repeatL s.data.toList c).toArray⟩
theorem rep_size (s : ByteArray) (c : Nat) : (rep s c).size = c * s.size := by
 have h : (rep s c).size = (Lib.repeatL s.data.toList c).length := by unfold rep; show (Lib.repeatL s.data.toList c).toArray.size = _; simp
 rw [h, Lib.repeatL_length, Array.length_toList]
 rfl
theorem sRepeat (s : ByteArray) (c : Nat) (w : World) (hs : s.size ≤ 2000) (hc : c ≤ 99) :
  qC 201 #[.string s, .int .i64 c] w (.string (rep s c)) :=
 Any.strings_Repeat lays105 Builder_Extra_105 s c w qo (by have := Nat.mul_le_mul hs hc; omega)
def trS (s : ByteArray) : ByteArray := ⟨(Lib.trimSuffix s.data.toList [10]).toArray⟩
theorem trS_size (s : ByteArray) : (trS s).size ≤ s.size := by
 have h : (trS s).size = (Lib.trimSuffix s.data.toList [10]).length := by unfold trS; show (Lib.trimSuffix s.data.toList [10]).toArray.size = _; simp
 have := Lib.trimSuffix_le s.data.toList [10]
 rw [h]
 rw [Array.length_toList] at this
 exact this
theorem sTrimSuffix (s : ByteArray) (w : World) (hs : s.size ≤ 1000000) :
  qC 267 #[.string s, .string ⟨#[10]⟩] w (.string (trS s)) :=
 Calls.mono (Any.strings_TrimSuffix lays102 s ⟨#[10]⟩ w qo) (fun _ _ ⟨a, b⟩ => ⟨a, b ▸ Below.refl _ _⟩)
theorem put_size {t b : ByteArray} {k : Nat} (h : k ≤ t.size) : (put t b k).size = t.size + b.size := by
 unfold put
 rw [ByteArray.size_append, ByteArray.size_append, ByteArray.size_extract, ByteArray.size_extract]
 omega
theorem tWith_put (s t : ByteArray) (k : Nat) (w : World) (hs : s.size ≤ 1000) (ht : t.size ≤ 1000000) (h : k ≤ s.size) :
  qC 192 #[.string s, .agg #[.int .i64 (k), .int .i64 (k)], .string t] w (.string (put s t k)) := tWith_any s t k k k k w hs ht rfl rfl (Nat.le_refl _) h
theorem qt78 {P : Prop} (h : P := by
  go_wp2_with fail
  refine (HL2.out _).mono ?_
  rintro e w4 ⟨rfl, h4⟩
  obtain ⟨hc4, hf4, hz4⟩ := qb h4
  try simp at hz4
  go_wp2_with fail
  refine (HF.out _).mono ?_
  rintro e w5 ⟨rfl, h5⟩
  obtain ⟨hc5, hf5, hz5⟩ := qb h5
  try simp at hz5
  go_wp2
  go_ret3
  refine ⟨rfl, ?_⟩
  repeat exact qB
 ) : P := h
theorem eBelow (s a : ByteArray) (p : Nat) (N : Int) (w : World) (hs : s.size ≤ 1000) (hp : p ≤ s.size) (ha : a.size ≤ 100000) :
  qC 226 #[.agg #[.string s, .int .i64 p, .int .i64 N], .string a] w (.tuple #[.string (put s (⟨#[10]⟩ ++ trS a) (fin s p)), .int .i64 (frs (put s (⟨#[10]⟩ ++ trS a) (fin s p)) (fin s p + 1)), .bool true]) := by
 have hf := fin_le hp
 have hta := trS_size a
 have h1 : (⟨#[10]⟩ ++ trS a : ByteArray).size = 1 + (trS a).size := by rw [ByteArray.size_append]; rfl
 have hps := put_size (t := s) (b := ⟨#[10]⟩ ++ trS a) hf
 have HL : qH 195 #[.string s, .int .i64 p] (.agg #[.int .i64 (beg s p), .int .i64 (fin s p)]) := fun ww => tLine_any s p p ww hs rfl hp
 have HT : qH 267 #[.string a, .string ⟨#[10]⟩] (.string (trS a)) := fun ww => sTrimSuffix a ww qo
 have HW : qH 192 #[.string s, .agg #[.int .i64 (fin s p), .int .i64 (fin s p)], .string (⟨#[10]⟩ ++ trS a)] (.string (put s (⟨#[10]⟩ ++ trS a) (fin s p))) := fun ww => tWith_put s _ _ ww hs qo hf
 have fsz : ¬ 9223372036854775807 < (trS a).size + 1 := by omega
 have fsz2 : ¬ 9223372036854775807 < 1 + (trS a).size := by omega
 have hX : (put s (⟨#[10]⟩ ++ trS a) (fin s p)).size ≤ 1000000 := by omega
 have hXf : fin s p + 1 ≤ (put s (⟨#[10]⟩ ++ trS a) (fin s p)).size := by omega
 have hwr : IntKind.i64.wrap (((fin s p : Nat) : Int) + 1) = ((fin s p : Nat) : Int) + 1 := by rw [IntKind.wrap_i64]; omega
 generalize put s (⟨#[10]⟩ ++ trS a) (fin s p) = X at *
 have HL2 : qH 195 #[.string X, .int .i64 (((fin s p : Nat) : Int) + 1)] (.agg #[.int .i64 (beg X (fin s p + 1)), .int .i64 (fin X (fin s p + 1))]) := fun ww => tLine_big X _ (fin s p + 1) ww hX qo hXf
 have HF : qH 243 #[.string X, .agg #[.int .i64 (beg X (fin s p + 1)), .int .i64 (fin X (fin s p + 1))]] (.int .i64 (frs X (fin s p + 1))) := fun ww => tFirst_big X _ _ (fin s p + 1) ww hX hXf rfl rfl
 have hx := ix1 (beg s p) (fin s p)
 generalize beg X (fin s p + 1) = B2 at *
 generalize fin X (fin s p + 1) = E2 at *
 generalize frs X (fin s p + 1) = F2 at *
 generalize beg s p = B at *
 generalize fin s p = E at *
 generalize trS a = TA at *
 clear hf hta h1 hps hX hXf
 go_enter func226, ntmps226
 have G : Spo (w.alloc (.cells #[.string s, .int .i64 p, .int .i64 N] 192)) w.heap.size s p N := Spo.new _ _ _ _ _
 go_wp2_with fail
 refine (HL.out _).mono ?_
 rintro r1 w1 ⟨rfl, h1⟩
 obtain ⟨hc1, hf1, hz1⟩ := qb h1
 (try simp at hz1)
 have G1 : Spo w1 (w.heap.size) (s) (p) (N) := qSp
 have ⟨G1_0, G1_1, G1_2, G1_z, G1_l⟩ := G1
 clear hc1 hf1
 go_wp2_with fail
 go_region_held3 (fun ww => ww.cell? ⟨w.heap.size, 0, none⟩ = some (.string s)) ((first | (go_simp; done) | ((repeat exact qM); done))) (first | (go_at_call 267; refine Calls.mono (HT.out _) ?_; rintro r2 w2 ⟨rfl, h2⟩; have hz2 := h2.size; (try simp at hz2); (try have ⟨hl2_0, hk2_0⟩ := qL w.heap.size w2.heap.size)) | (go_at_call 192; refine Calls.mono (HW.out _) ?_; rintro r3 w3 ⟨rfl, h3⟩; have hz3 := h3.size; (try simp at hz3); (try have ⟨hl3_0, hk3_0⟩ := qL w.heap.size w3.heap.size)))
 exact qt78
theorem eAbove (s a : ByteArray) (p : Nat) (N : Int) (w : World) (hs : s.size ≤ 1000) (hp : p ≤ s.size) (ha : a.size ≤ 100000) :
  qC 227 #[.agg #[.string s, .int .i64 p, .int .i64 N], .string a] w (.tuple #[.string (put s a (beg s p)), .int .i64 (frs (put s a (beg s p)) (beg s p)), .bool true]) := by
 have hf : beg s p ≤ s.size := Nat.le_trans (beg_le s p) hp
 have hps := put_size (t := s) (b := a) hf
 have HL : qH 195 #[.string s, .int .i64 p] (.agg #[.int .i64 (beg s p), .int .i64 (fin s p)]) := fun ww => tLine_any s p p ww hs rfl hp
 have HW : qH 192 #[.string s, .agg #[.int .i64 (beg s p), .int .i64 (beg s p)], .string a] (.string (put s a (beg s p))) := fun ww => tWith_put s _ _ ww hs qo hf
 have hX : (put s a (beg s p)).size ≤ 1000000 := by omega
 have hXf : beg s p ≤ (put s a (beg s p)).size := by omega
 generalize put s a (beg s p) = X at *
 have HL2 : qH 195 #[.string X, .int .i64 (beg s p)] (.agg #[.int .i64 (beg X (beg s p)), .int .i64 (fin X (beg s p))]) := fun ww => tLine_big X _ (beg s p) ww hX rfl hXf
 have HF : qH 243 #[.string X, .agg #[.int .i64 (beg X (beg s p)), .int .i64 (fin X (beg s p))]] (.int .i64 (frs X (beg s p))) := fun ww => tFirst_big X _ _ (beg s p) ww hX hXf rfl rfl
 have hx := ix0 (beg s p) (fin s p)
 generalize beg X (beg s p) = B2 at *
 generalize fin X (beg s p) = E2 at *
 generalize frs X (beg s p) = F2 at *
 generalize beg s p = B at *
 generalize fin s p = E at *
 clear hf hps hX hXf
 go_enter func227, ntmps227
 have G : Spo (w.alloc (.cells #[.string s, .int .i64 p, .int .i64 N] 192)) w.heap.size s p N := Spo.new _ _ _ _ _
 go_wp2_with fail
 refine (HL.out _).mono ?_
 rintro r1 w1 ⟨rfl, h1⟩
 obtain ⟨hc1, hf1, hz1⟩ := qb h1
 (try simp at hz1)
 have G1 : Spo w1 (w.heap.size) (s) (p) (N) := qSp
 have ⟨G1_0, G1_1, G1_2, G1_z, G1_l⟩ := G1
 clear hc1 hf1
 go_wp2_with fail
 refine (HW.out _).mono ?_
 rintro e w2 ⟨rfl, h2⟩
 obtain ⟨hc2, hf2, hz2⟩ := qb h2
 try simp at hz2
 exact qt78
abbrev GivesE (f : Nat) (args : Array Value) : Prop :=
 ∃ (X : ByteArray) (q : Nat) (is : Bool), (is = true → q ≤ X.size) ∧ ∀ ww, Calls Tryz.prog f args ww fun e w' => e = .returned (.tuple #[.string X, .int .i64 q, .bool is]) ∧ Below ww.heap.size ww w'
theorem ne_empty {x : ByteArray} (h : ¬ x.size = 0) : x.toList.isEmpty = false := by
 rw [ByteArray.toList_eq]
 cases hx : x.data.toList with
 | nil =>
  exfalso
  apply h
  show x.data.size = 0
  rw [← Array.length_toList, hx]
  rfl
 | cons a l => rfl
theorem qt68 {P : Prop} (h : P := by
  rintro e w2 ⟨rfl, h2⟩
  obtain ⟨hc2, hf2, hz2⟩ := qb h2
  try simp at hz2
  go_wp2
  go_ret3
  refine ⟨rfl, ?_⟩
  repeat exact qB
 ) : P := h
theorem qt50 {P : Prop} (h : P := by
  generalize rep what N = A at *
  clear hfr hrs hmul
  go_enter func190, ntmps190
  have G : Spo (w.alloc (.cells #[.string s, .int .i64 p, .int .i64 N] 192)) w.heap.size s p N := Spo.new _ _ _ _ _
  go_wp2_with fail
  refine (HR.out _).mono ?_
  rintro r1 w1 ⟨rfl, h1⟩
  obtain ⟨hc1, hf1, hz1⟩ := qb h1
  (try simp at hz1)
  have G1 : Spo w1 (w.heap.size) (s) (p) (N) := qSp
  have ⟨G1_0, G1_1, G1_2, G1_z, G1_l⟩ := G1
  clear hc1 hf1
  go_wp2_with fail
  refine (HB.out _).mono ?_
  exact qt68
 ) : P := h
theorem eLaid (s what : ByteArray) (p N : Nat) (l b : Bool) (hs : s.size ≤ 1000) (hp : p ≤ s.size) (hw : what.size ≤ 1001) (hN : 1 ≤ N) (hN2 : N ≤ 99) :
  GivesE 190 #[.agg #[.string s, .int .i64 p, .int .i64 N], .string what, .bool l, .bool b] := by
 have HR : qH 201 #[.string what, .int .i64 N] (.string (rep what N)) := fun ww => sRepeat what N ww qo hN2
 have hrs := rep_size what N
 have hmul := Nat.mul_le_mul hN2 hw
 have hfl := fin_le hp
 have hfg := fin_ge s p
 by_cases h0 : what.size = 0
 ·refine ⟨⟨#[]⟩, 0, false, (fun h => by cases h), fun w => ?_⟩
  have e : what = ⟨#[]⟩ := by
   apply ByteArray.ext
   exact Array.eq_empty_of_size_eq_zero h0
  subst e
  go_enter func190, ntmps190
  go_wp2_with fail
  refine (HR.out _).mono ?_
  rintro e w1 ⟨rfl, h1⟩
  obtain ⟨hc1, hf1, hz1⟩ := qb h1
  try simp at hz1
  go_wp2
  go_ret3
  refine ⟨rfl, ?_⟩
  repeat exact qB
 ·have hne := ne_empty h0
  have hne2 : ¬ what.toList = [] := by intro e; rw [e] at hne; cases hne
  have hge : 1 ≤ (rep what N).size := by
   rw [hrs]
   exact Nat.mul_pos qo qo
  cases l with
  | true =>
   cases b with
   | true =>
    have HB : qH 226 #[.agg #[.string s, .int .i64 p, .int .i64 N], .string (rep what N)] (.tuple #[.string (put s (⟨#[10]⟩ ++ trS (rep what N)) (fin s p)), .int .i64 (frs (put s (⟨#[10]⟩ ++ trS (rep what N)) (fin s p)) (fin s p + 1)), .bool true]) := fun ww => eBelow s _ p N ww hs hp qo
    have hfr : frs (put s (⟨#[10]⟩ ++ trS (rep what N)) (fin s p)) (fin s p + 1) ≤ (put s (⟨#[10]⟩ ++ trS (rep what N)) (fin s p)).size := frs_le (by rw [put_size hfl, ByteArray.size_append]; have : (⟨#[10]⟩ : ByteArray).size = 1 := rfl; omega)
    refine ⟨_, _, true, fun _ => hfr, fun w => ?_⟩
    generalize frs (put s (⟨#[10]⟩ ++ trS (rep what N)) (fin s p)) (fin s p + 1) = Q at *
    generalize put s (⟨#[10]⟩ ++ trS (rep what N)) (fin s p) = X at *
    exact qt50
   | false =>
    have HB : qH 227 #[.agg #[.string s, .int .i64 p, .int .i64 N], .string (rep what N)] (.tuple #[.string (put s (rep what N) (beg s p)), .int .i64 (frs (put s (rep what N) (beg s p)) (beg s p)), .bool true]) := fun ww => eAbove s _ p N ww hs hp qo
    have hbl := beg_le s p
    have hfr : frs (put s (rep what N) (beg s p)) (beg s p) ≤ (put s (rep what N) (beg s p)).size := frs_le (by rw [put_size qo]; omega)
    refine ⟨_, _, true, fun _ => hfr, fun w => ?_⟩
    generalize frs (put s (rep what N) (beg s p)) (beg s p) = Q at *
    generalize put s (rep what N) (beg s p) = X at *
    exact qt50
  | false =>
   cases b with
   | false =>
    have HW : qH 192 #[.string s, .agg #[.int .i64 (p), .int .i64 (p)], .string (rep what N)] (.string (put s (rep what N) p)) := fun ww => tWith_put s _ p ww hs qo hp
    have hps := put_size (t := s) (b := rep what N) hp
    refine ⟨put s (rep what N) p, p + (rep what N).size - 1, true, fun _ => by omega, fun w => ?_⟩
    generalize put s (rep what N) p = X at *
    generalize rep what N = A at *
    have hw1 : IntKind.i64.wrap ((p : Int) + A.size) = (p : Int) + A.size := by rw [IntKind.wrap_i64]; omega
    have hw2 : IntKind.i64.wrap ((p : Int) + A.size - 1) = (p : Int) + A.size - 1 := by rw [IntKind.wrap_i64]; omega
    have hq : (((p + A.size - 1 : Nat)) : Int) = (p : Int) + A.size - 1 := by omega
    rw [hq]
    clear hrs hmul hps hq
    go_enter func190, ntmps190
    have G : Spo (w.alloc (.cells #[.string s, .int .i64 p, .int .i64 N] 192)) w.heap.size s p N := Spo.new _ _ _ _ _
    go_wp2_with fail
    refine (HR.out _).mono ?_
    rintro r1 w1 ⟨rfl, h1⟩
    obtain ⟨hc1, hf1, hz1⟩ := qb h1
    (try simp at hz1)
    have G1 : Spo w1 (w.heap.size) (s) (p) (N) := qSp
    have ⟨G1_0, G1_1, G1_2, G1_z, G1_l⟩ := G1
    clear hc1 hf1
    go_wp2_with fail
    refine (HW.out _).mono ?_
    exact qt68
   | true =>
    have HL : qH 195 #[.string s, .int .i64 p] (.agg #[.int .i64 (beg s p), .int .i64 (fin s p)]) := fun ww => tLine_any s p p ww hs rfl hp
    have hm : min (p + 1) (fin s p) ≤ s.size := by omega
    obtain ⟨M, MI, hM, hMI, hcase⟩ : ∃ (M : Nat) (MI : Int), M = min (p + 1) (fin s p) ∧ (M : Int) = MI ∧ ((MI = (fin s p : Nat) ∧ fin s p < p + 1 ∧ ((fin s p : Nat) : Int) < (p : Int) + 1) ∨ (MI = (p : Int) + 1 ∧ ¬ fin s p < p + 1 ∧ ¬ ((fin s p : Nat) : Int) < (p : Int) + 1)) := ⟨_, _, rfl, rfl, by omega⟩
    rw [← hM] at hm
    have HW : Hid (∀ ww, qC 192 #[.string s, .agg #[.int .i64 (MI), .int .i64 (MI)], .string (rep what N)] ww (.string (put s (rep what N) M))) := by
     rw [← hMI]
     exact fun ww => tWith_put s _ M ww hs qo hm
    have hps := put_size (t := s) (b := rep what N) hm
    refine ⟨put s (rep what N) M, M + (rep what N).size - 1, true, fun _ => by omega, fun w => ?_⟩
    generalize put s (rep what N) M = X at *
    generalize rep what N = A at *
    have hw0 : IntKind.i64.wrap ((p : Int) + 1) = (p : Int) + 1 := by rw [IntKind.wrap_i64]; omega
    have hw1 : IntKind.i64.wrap (MI + A.size) = MI + A.size := by rw [IntKind.wrap_i64]; omega
    have hw2 : IntKind.i64.wrap (MI + A.size - 1) = MI + A.size - 1 := by rw [IntKind.wrap_i64]; omega
    have hq : (((M + A.size - 1 : Nat)) : Int) = MI + A.size - 1 := by omega
    rw [hq]
    have hx := ix1 (beg s p) (fin s p)
    generalize beg s p = LB at *
    generalize fin s p = LE at *
    clear hrs hmul hps hq hM hm hMI
    have hmn : min ((p : Int) + 1) ((LE : Nat) : Int) = MI := by omega
    rcases hcase with ⟨e, k1, k2⟩ | ⟨e, k1, k2⟩
    all_goals
     subst e
     go_enter func190, ntmps190
     have G : Spo (w.alloc (.cells #[.string s, .int .i64 p, .int .i64 N] 192)) w.heap.size s p N := Spo.new _ _ _ _ _
     go_wp2_with fail
     refine (HR.out _).mono ?_
     rintro r1 w1 ⟨rfl, h1⟩
     obtain ⟨hc1, hf1, hz1⟩ := qb h1
     (try simp at hz1)
     have G1 : Spo w1 (w.heap.size) (s) (p) (N) := qSp
     have ⟨G1_0, G1_1, G1_2, G1_z, G1_l⟩ := G1
     clear hc1 hf1
     go_wp2_with fail
     go_region_held3 (fun ww => ww.cell? ⟨w.heap.size, 0, none⟩ = some (.string s) ∧ ww.cell? ⟨w.heap.size, 1, none⟩ = some (.int .i64 p)) (exact qK) ((go_at_call 195; refine Calls.mono (HL.out _) ?_; rintro r2 w2 ⟨rfl, h2⟩; have hz2 := h2.size; (try simp at hz2); (try have ⟨hl2_0, hk2_0⟩ := qL w.heap.size w2.heap.size)))
     go_wp2_with fail
     refine (HW.out _).mono ?_
     rintro e w3 ⟨rfl, h3⟩
     obtain ⟨hc3, hf3, hz3⟩ := qb h3
     try simp at hz3
     go_wp2
     go_ret3
     refine ⟨rfl, ?_⟩
     repeat exact qB
def ctd (s : ByteArray) (p N : Nat) : Nat := min (p + N) (fin s p)
theorem eCounted (s : ByteArray) (p N : Nat) (w : World) (hs : s.size ≤ 1000) (hp : p ≤ s.size) (hN2 : N ≤ 99) :
  qC 191 #[.agg #[.string s, .int .i64 p, .int .i64 N]] w (.agg #[.int .i64 (p), .int .i64 (ctd s p N)]) := by
 have HL : qH 195 #[.string s, .int .i64 p] (.agg #[.int .i64 (beg s p), .int .i64 (fin s p)]) := fun ww => tLine_any s p p ww hs rfl hp
 have hfl := fin_le hp
 obtain ⟨MI, hMI, hcase⟩ : ∃ (MI : Int), ((ctd s p N : Nat) : Int) = MI ∧ ((MI = (fin s p : Nat) ∧ fin s p < p + N ∧ ((fin s p : Nat) : Int) < (p : Int) + N) ∨ (MI = (p : Int) + N ∧ ¬ fin s p < p + N ∧ ¬ ((fin s p : Nat) : Int) < (p : Int) + N)) := ⟨_, rfl, by unfold ctd; omega⟩
 rw [hMI]
 have hw0 : IntKind.i64.wrap ((p : Int) + N) = (p : Int) + N := by rw [IntKind.wrap_i64]; omega
 have hx := ix1 (beg s p) (fin s p)
 generalize beg s p = LB at *
 generalize fin s p = LE at *
 clear hMI
 have hmn : min ((p : Int) + N) ((LE : Nat) : Int) = MI := by omega
 rcases hcase with ⟨e, k1, k2⟩ | ⟨e, k1, k2⟩
 all_goals
  subst e
  go_enter func191, ntmps191
  have G : Spo ((w.alloc (.cells #[.string s, .int .i64 p, .int .i64 N] 192)).alloc (.cells #[.int .i64 0, .int .i64 0] 128)) w.heap.size s p N := (Spo.new _ _ _ _ _).alloc _
  have g0 := G.c0
  have g1 := G.c1
  have g2 := G.c2
  go_wp2_with fail
  go_region_held3 (fun ww => ww.cell? ⟨w.heap.size, 0, none⟩ = some (.string s) ∧ ww.cell? ⟨w.heap.size, 1, none⟩ = some (.int .i64 p) ∧ ww.cell? ⟨w.heap.size, 2, none⟩ = some (.int .i64 N)) (exact qK) ((go_at_call 195; refine Calls.mono (HL.out _) ?_; rintro r1 w1 ⟨rfl, h1⟩; have hz1 := h1.size; (try simp at hz1); (try have ⟨hl1_0, hk1_0⟩ := qL w.heap.size w1.heap.size); obtain ⟨hc1, hf1⟩ := bcell h1; have hn1_0 := (hc1 (w.heap.size + 1) 0 qO).trans (show _ = some (.int .i64 0) by simp); have hn1_1 := (hc1 (w.heap.size + 1) 1 qO).trans (show _ = some (.int .i64 0) by simp); have hq1 := fun o => (hf1 (w.heap.size + 1) o qO).trans (show _ = false by simp); have hg1 : w.heap.size + 1 < w1.heap.size := qo; clear hc1 hf1))
  go_wp2
 ·refine bodyPost_ret (v := .agg #[.int .i64 (p), .int .i64 (LE)]) (by simp [results, results191, go_sem, hn1_0, hn1_1, hq1, hg1, hmn]) rfl ⟨rfl, ?_⟩
  repeat exact qB
 ·refine bodyPost_ret (v := .agg #[.int .i64 (p), .int .i64 ((p : Int) + N)]) (by simp [results, results191, go_sem, hn1_0, hn1_1, hq1, hg1, hmn]) rfl ⟨rfl, ?_⟩
  repeat exact qB
theorem ctd_le {s : ByteArray} {p N : Nat} (hp : p ≤ s.size) : p ≤ ctd s p N ∧ ctd s p N ≤ s.size ∧ ctd s p N ≤ p + N := by
 have h1 := fin_ge s p
 have h2 := fin_le hp
 unfold ctd
 omega
theorem tEmptyI (a : Int) (w : World) :
  qC 185 #[.agg #[.int .i64 (a), .int .i64 (a)]] w (.bool true) := by
 have := tIsEmpty_any a a w
 rw [show (a == a) = true by simp] at this
 exact this
theorem tEmptyN (a b : Nat) (w : World) (h : ¬ a = b) :
  qC 185 #[.agg #[.int .i64 (a), .int .i64 (b)]] w (.bool false) := by
 have := tIsEmpty_any a b w
 rw [show ((a : Int) == b) = false by simp; omega] at this
 exact this
def wth (s b : ByteArray) (i j : Nat) : ByteArray := s.extract 0 i ++ b ++ s.extract j s.size
theorem wth_size {s b : ByteArray} {i j : Nat} (h : i ≤ j) (hj : j ≤ s.size) : (wth s b i j).size = s.size - (j - i) + b.size := by
 unfold wth
 rw [ByteArray.size_append, ByteArray.size_append, ByteArray.size_extract, ByteArray.size_extract]
 omega
theorem eReplaced (s : ByteArray) (p N : Nat) (c : UInt8) (hs : s.size ≤ 1000) (hp : p ≤ s.size) (hN : 1 ≤ N) (hN2 : N ≤ 99) :
  GivesE 164 #[.agg #[.string s, .int .i64 p, .int .i64 N], .int .u8 c.toNat] := by
 have HC : qH 191 #[.agg #[.string s, .int .i64 p, .int .i64 N]] (.agg #[.int .i64 (p), .int .i64 (ctd s p N)]) := fun ww => eCounted s p N ww hs hp hN2
 have hcl := ctd_le (N := N) hp
 have hw0 : IntKind.i64.wrap (((ctd s p N : Nat) : Int) - p) = ((ctd s p N : Nat) : Int) - p := by rw [IntKind.wrap_i64]; omega
 by_cases hlt : ctd s p N - p < N
 ·refine ⟨⟨#[]⟩, 0, false, (fun h => by cases h), fun w => ?_⟩
  have hi : ((ctd s p N : Nat) : Int) - p < (N : Int) := by omega
  generalize ctd s p N = D at *
  go_enter func164, ntmps164
  have G : Spo (w.alloc (.cells #[.string s, .int .i64 p, .int .i64 N] 192)) w.heap.size s p N := Spo.new _ _ _ _ _
  go_wp2_with fail
  refine (HC.out _).mono ?_
  rintro r1 w1 ⟨rfl, h1⟩
  obtain ⟨hc1, hf1, hz1⟩ := qb h1
  (try simp at hz1)
  have G1 : Spo w1 (w.heap.size) (s) (p) (N) := qSp
  have ⟨G1_0, G1_1, G1_2, G1_z, G1_l⟩ := G1
  clear hc1 hf1
  go_wp2
  go_ret3
  refine ⟨rfl, ?_⟩
  repeat exact qB
 ·have hi : ¬ ((ctd s p N : Nat) : Int) - p < (N : Int) := by omega
  have HR : qH 201 #[.string ⟨#[c]⟩, .int .i64 N] (.string (rep ⟨#[c]⟩ N)) := fun ww => sRepeat ⟨#[c]⟩ N ww (by show 1 ≤ 2000; omega) hN2
  have hrs : (rep ⟨#[c]⟩ N).size = N := by rw [rep_size]; show N * 1 = N; omega
  have HW : qH 192 #[.string s, .agg #[.int .i64 (p), .int .i64 (ctd s p N)], .string (rep ⟨#[c]⟩ N)] (.string (wth s (rep ⟨#[c]⟩ N) p (ctd s p N))) := fun ww => tWith_any s _ p (ctd s p N) p (ctd s p N) ww hs qo rfl rfl hcl.1 hcl.2.1
  obtain ⟨Q, hQ⟩ : ∃ Q : Nat, (Q : Int) = max (p : Int) (((ctd s p N : Nat) : Int) - 1) := ⟨max p (ctd s p N - 1), by omega⟩
  have HA : qH 202 #[.agg #[.int .i64 (p), .int .i64 (ctd s p N)]] (.int .i64 Q) := by
   intro ww
   rw [hQ]
   exact tLast_any _ _ ww qo
  have hcv := fun (ww : World) (n : Nat) (hh : ww.cell? ⟨n, 0, none⟩ = some (.int .u8 c.toNat)) => conv_oneB ww n c hh
  have hX := wth_size (s := s) (b := rep ⟨#[c]⟩ N) hcl.1 hcl.2.1
  refine ⟨wth s (rep ⟨#[c]⟩ N) p (ctd s p N), Q, true, fun _ => by omega, fun w => ?_⟩
  clear hQ
  generalize wth s (rep ⟨#[c]⟩ N) p (ctd s p N) = X at *
  generalize rep ⟨#[c]⟩ N = A at *
  generalize ctd s p N = D at *
  clear hX hrs hlt
  go_enter func164, ntmps164
  have G : Spo (w.alloc (.cells #[.string s, .int .i64 p, .int .i64 N] 192)) w.heap.size s p N := Spo.new _ _ _ _ _
  go_wp2_with fail
  refine (HC.out _).mono ?_
  rintro r1 w1 ⟨rfl, h1⟩
  obtain ⟨hc1, hf1, hz1⟩ := qb h1
  (try simp at hz1)
  have G1 : Spo w1 (w.heap.size) (s) (p) (N) := qSp
  have ⟨G1_0, G1_1, G1_2, G1_z, G1_l⟩ := G1
  clear hc1 hf1
  go_wp2_with fail
  have E : Two (w1.alloc (.cells #[.int .i64 p, .int .i64 D] 128)) w1.heap.size p D := Two.new _ _ _ _
  have G2 : Spo (w1.alloc (.cells #[.int .i64 p, .int .i64 D] 128)) w.heap.size s p N := G1.alloc _
  have U2 : Below w.heap.size w (w1.alloc (.cells #[.int .i64 p, .int .i64 D] 128)) := by
   repeat exact qB
  have lt2 : w.heap.size < (w1.alloc (.cells #[.int .i64 p, .int .i64 D] 128)).heap.size := G2.lt
  have lt3 : w1.heap.size < (w1.alloc (.cells #[.int .i64 p, .int .i64 D] 128)).heap.size := E.lt
  clear G G1
  generalize (w1.alloc (.cells #[.int .i64 p, .int .i64 D] 128)) = W at *
  have e0 := E.c0
  have e1 := E.c1
  have f0 := G2.c0
  have f1 := G2.c1
  have f2 := G2.c2
  refine wp_region_held_drew (S := fun ww => ww.cell? ⟨w.heap.size, 0, none⟩ = some (.string s) ∧ ww.cell? ⟨w.heap.size, 2, none⟩ = some (.int .i64 N) ∧ ww.cell? ⟨w1.heap.size, 0, none⟩ = some (.int .i64 p) ∧ ww.cell? ⟨w1.heap.size, 1, none⟩ = some (.int .i64 D)) qk ?_ (fun hHeld => ?_)
  ·(refine ⟨?_, ?_, ?_, ?_⟩ <;> (repeat exact qM))
  refine qT 0 ?_
  simp only [Act.put, qP]
  refine qT 1 ?_
  simp only [Act.put, qP]
  refine qT 2 ?_
  simp only [Act.put, qP]
  refine qT 3 ?_
  simp only [Act.put, qP]
  refine qT 6 ?_
  simp only [Act.put, qP]
  refine qT 7 ?_
  simp only [Act.put, qP]
  refine qT 10 ?_
  simp only [Act.put, qP]
  refine qR 4 fun K hK => ?_
  rw [if_pos (by rfl)]
  go_wp2_with fail
  refine hK.out _ _ ?_ (fun hHeld => ?_)
  ·(refine ⟨?_, ?_, ?_, ?_⟩ <;> (repeat exact qM))
  clear hK K
  try simp only [Act.put, qP]
  refine qR 5 fun K hK => ?_
  rw [if_pos (by rfl)]
  go_wp2_with fail
  refine hK.out _ _ ?_ (fun hHeld => ?_)
  ·(refine ⟨?_, ?_, ?_, ?_⟩ <;> (repeat exact qM))
  clear hK K
  try simp only [Act.put, qP]
  refine qR 8 fun K hK => ?_
  rw [if_pos (by rfl)]
  go_wp2_with fail
  refine (HR.out _).mono ?_
  rintro r2 w2 ⟨rfl, h2⟩
  obtain ⟨hc2, hf2, hz2⟩ := qb h2
  (try simp at hz2)
  go_wp2_with fail
  refine hK.out _ _ ?_ (fun hHeld => ?_)
  ·(refine ⟨?_, ?_, ?_, ?_⟩ <;> (repeat exact qM))
  clear hK K
  try simp only [Act.put, qP]
  clear hc2 hf2
  refine qR 9 fun K hK => ?_
  rw [if_pos (by rfl)]
  go_wp2_with fail
  refine (HW.out _).mono ?_
  rintro r3 w3 ⟨rfl, h3⟩
  obtain ⟨hc3, hf3, hz3⟩ := qb h3
  (try simp at hz3)
  go_wp2_with fail
  refine hK.out _ _ ?_ (fun hHeld => ?_)
  ·(refine ⟨?_, ?_, ?_, ?_⟩ <;> (repeat exact qM))
  clear hK K
  try simp only [Act.put, qP]
  clear hc3 hf3
  refine qR 11 fun K hK => ?_
  rw [if_pos (by rfl)]
  go_wp2_with fail
  refine (HA.out _).mono ?_
  rintro r4 w4 ⟨rfl, h4⟩
  obtain ⟨hc4, hf4, hz4⟩ := qb h4
  (try simp at hz4)
  go_wp2_with fail
  refine hK.out _ _ ?_ (fun hHeld => ?_)
  ·(refine ⟨?_, ?_, ?_, ?_⟩ <;> (repeat exact qM))
  clear hK K
  try simp only [Act.put, qP]
  clear hc4 hf4
  refine qT 12 ?_
  simp only [Act.put, qP]
  refine qT 13 ?_
  simp only [Act.put, qP]
  refine qT 14 ?_
  simp only [Act.put, qP]
  refine wpAnyH_done qk ?_ _
  go_wp2
  go_ret3
  refine ⟨rfl, ?_⟩
  repeat exact qB
theorem eTurned (s : ByteArray) (p N : Nat) (hs : s.size ≤ 1000) (hp : p ≤ s.size) (hN2 : N ≤ 99) :
  GivesE 157 #[.agg #[.string s, .int .i64 p, .int .i64 N]] := by
 have HC : qH 191 #[.agg #[.string s, .int .i64 p, .int .i64 N]] (.agg #[.int .i64 (p), .int .i64 (ctd s p N)]) := fun ww => eCounted s p N ww hs hp hN2
 have hcl := ctd_le (N := N) hp
 by_cases he : p = ctd s p N
 ·have HE : Hid (∀ ww, qC 185 #[.agg #[.int .i64 (p), .int .i64 (ctd s p N)]] ww (.bool true)) := by
   rw [← he]
   exact fun ww => tEmptyI p ww
  refine ⟨⟨#[]⟩, 0, false, (fun h => by cases h), fun w => ?_⟩
  generalize ctd s p N = D at *
  clear he
  go_enter func157, ntmps157
  have G : Spo (w.alloc (.cells #[.string s, .int .i64 p, .int .i64 N] 192)) w.heap.size s p N := Spo.new _ _ _ _ _
  go_wp2_with fail
  refine (HC.out _).mono ?_
  rintro r1 w1 ⟨rfl, h1⟩
  obtain ⟨hc1, hf1, hz1⟩ := qb h1
  (try simp at hz1)
  have G1 : Spo w1 (w.heap.size) (s) (p) (N) := qSp
  have ⟨G1_0, G1_1, G1_2, G1_z, G1_l⟩ := G1
  clear hc1 hf1
  go_wp2_with fail
  refine (HE.out _).mono ?_
  exact qt68
 ·have HE : qH 185 #[.agg #[.int .i64 (p), .int .i64 (ctd s p N)]] (.bool false) := fun ww => tEmptyN _ _ ww he
  have HO : qH 87 #[.string s, .agg #[.int .i64 (p), .int .i64 (ctd s p N)]] (.string (s.extract p (ctd s p N))) := fun ww => tOf_any s _ _ _ _ ww hs rfl rfl hcl.1 hcl.2.1
  have hos : (s.extract p (ctd s p N)).size ≤ 1000 := by rw [ByteArray.size_extract]; omega
  have HEa : qH 193 #[.string (s.extract p (ctd s p N)), .func (.func 194) #[] #[]] (.string ⟨((s.extract p (ctd s p N)).data.toList.map turnU).toArray⟩) := fun ww => tEach _ _ turnU ww hos (enters_of func194 qk rfl) (fun c w2 => tTurnedB c w2)
  have hms : (⟨((s.extract p (ctd s p N)).data.toList.map turnU).toArray⟩ : ByteArray).size = ctd s p N - p := by
   show ((s.extract p (ctd s p N)).data.toList.map turnU).toArray.size = _
   have : (s.extract p (ctd s p N)).size = ctd s p N - p := by rw [ByteArray.size_extract]; omega
   rw [List.size_toArray, List.length_map, Array.length_toList]
   exact this
  have HW : qH 192 #[.string s, .agg #[.int .i64 (p), .int .i64 (ctd s p N)], .string ⟨((s.extract p (ctd s p N)).data.toList.map turnU).toArray⟩] (.string (wth s ⟨((s.extract p (ctd s p N)).data.toList.map turnU).toArray⟩ p (ctd s p N))) := fun ww => tWith_any s _ p (ctd s p N) p (ctd s p N) ww hs qo rfl rfl hcl.1 hcl.2.1
  have hX := wth_size (s := s) (b := ⟨((s.extract p (ctd s p N)).data.toList.map turnU).toArray⟩) hcl.1 hcl.2.1
  refine ⟨wth s ⟨((s.extract p (ctd s p N)).data.toList.map turnU).toArray⟩ p (ctd s p N), ctd s p N, true, fun _ => by omega, fun w => ?_⟩
  generalize wth s ⟨((s.extract p (ctd s p N)).data.toList.map turnU).toArray⟩ p (ctd s p N) = X at *
  generalize (⟨((s.extract p (ctd s p N)).data.toList.map turnU).toArray⟩ : ByteArray) = A at *
  generalize s.extract p (ctd s p N) = O at *
  generalize ctd s p N = D at *
  clear hX hms hos he
  go_enter func157, ntmps157
  have G : Spo (w.alloc (.cells #[.string s, .int .i64 p, .int .i64 N] 192)) w.heap.size s p N := Spo.new _ _ _ _ _
  go_wp2_with fail
  refine (HC.out _).mono ?_
  rintro r1 w1 ⟨rfl, h1⟩
  obtain ⟨hc1, hf1, hz1⟩ := qb h1
  (try simp at hz1)
  have G1 : Spo w1 (w.heap.size) (s) (p) (N) := qSp
  have ⟨G1_0, G1_1, G1_2, G1_z, G1_l⟩ := G1
  clear hc1 hf1
  have E : Two (w1.alloc (.cells #[.int .i64 p, .int .i64 D] 128)) w1.heap.size p D := Two.new _ _ _ _
  have G2 : Spo (w1.alloc (.cells #[.int .i64 p, .int .i64 D] 128)) w.heap.size s p N := G1.alloc _
  clear G
  go_wp2_with fail
  refine (HE.out _).mono ?_
  rintro r2 w2 ⟨rfl, h2⟩
  obtain ⟨hc2, hf2, hz2⟩ := qb h2
  (try simp at hz2)
  have G22 : Spo w2 (w.heap.size) (s) (p) (N) := qSp
  have ⟨G22_0, G22_1, G22_2, G22_z, G22_l⟩ := G22
  have E2 : Two w2 (w1.heap.size) (p) (D) := qTw
  have ⟨E2_0, E2_1, E2_z, E2_l⟩ := E2
  clear hc2 hf2
  go_wp2_with fail
  go_region_held3 (fun ww => ww.cell? ⟨w.heap.size, 0, none⟩ = some (.string s) ∧ ww.cell? ⟨w1.heap.size, 0, none⟩ = some (.int .i64 p) ∧ ww.cell? ⟨w1.heap.size, 1, none⟩ = some (.int .i64 D)) (exact qK) (first | (go_at_call 87; refine Calls.mono (HO.out _) ?_; rintro r3 w3 ⟨rfl, h3⟩; have hz3 := h3.size; (try simp at hz3); (try have ⟨hl3_0, hk3_0⟩ := qL w.heap.size w3.heap.size); (try have ⟨hl3_1, hk3_1⟩ := qL w1.heap.size w3.heap.size)) | (go_at_call 193; refine Calls.mono (HEa.out _) ?_; rintro r4 w4 ⟨rfl, h4⟩; have hz4 := h4.size; (try simp at hz4); (try have ⟨hl4_0, hk4_0⟩ := qL w.heap.size w4.heap.size); (try have ⟨hl4_1, hk4_1⟩ := qL w1.heap.size w4.heap.size)) | (go_at_call 192; refine Calls.mono (HW.out _) ?_; rintro r5 w5 ⟨rfl, h5⟩; have hz5 := h5.size; (try simp at hz5); (try have ⟨hl5_0, hk5_0⟩ := qL w.heap.size w5.heap.size); (try have ⟨hl5_1, hk5_1⟩ := qL w1.heap.size w5.heap.size)))
  go_wp2
  go_ret3
  refine ⟨rfl, ?_⟩
  repeat exact qB
def spl (s : ByteArray) : List ByteArray := Lib.splitB ⟨#[10]⟩ 0 (Lib.countB s ⟨#[10]⟩) s
theorem splitB_sum : ∀ (k : Nat) (s : ByteArray), ((Lib.splitB ⟨#[10]⟩ 0 k s).map ByteArray.size).sum + (Lib.splitB ⟨#[10]⟩ 0 k s).length ≤ s.size + 1 := by
 intro k
 induction k with
 | zero => intro s; simp [Lib.splitB_zero]
 | succ k ih =>
  intro s
  rcases Lib.indexB_cases s ⟨#[10]⟩ with h | ⟨i, hi, hroom⟩
  ·rw [Lib.splitB_miss _ _ _ _ h]; simp
  ·rw [Lib.splitB_hit _ _ _ _ i hi]
   have hz : (⟨#[10]⟩ : ByteArray).size = 1 := rfl
   rw [hz] at hroom ⊢
   have := ih (s.extract (i + 1) s.size)
   rw [ByteArray.size_extract] at this
   simp only [List.map_cons, List.sum_cons, List.length_cons, ByteArray.size_extract]
   omega
theorem spl_sum (s : ByteArray) : ((spl s).map ByteArray.size).sum + (spl s).length ≤ s.size + 1 := splitB_sum _ s
theorem spl_pos (s : ByteArray) : 1 ≤ (spl s).length := by
 unfold spl
 rw [Lib.splitB_all ⟨#[10]⟩ qd 0 _ s rfl]
 omega
theorem sSplit (s : ByteArray) (w : World) (hs : s.size ≤ 1000) :
  Calls Tryz.prog 198 #[.string s, .string ⟨#[10]⟩] w fun e w' => e = .returned (.slice (some ⟨w.heap.size, 0, none⟩) (spl s).length (spl s).length) ∧ w' = w.alloc (.cells ((spl s).map Value.string).toArray 9) := by
 have hle := Lib.countB_le ⟨#[10]⟩ qd s.size s (Nat.le_refl _)
 have hlen := Lib.splitB_all ⟨#[10]⟩ qd 0 _ s rfl
 have c := Any.strings_genSplit_core lays221 qk s ⟨#[10]⟩ 0 (-1) (Lib.countB s ⟨#[10]⟩ + 1) w qo qd (Nat.zero_le _)
  (fun x cc hx => by
   have := Any.strings_Index_one lays143 x 10 (w.alloc (.cells cc 9))
   rw [← Lib.index_one] at this
   exact this)
  (by
   have := Any.strings_Count_one lays138 s 10 w
   rw [show Lib.countByte s.data.toList 10 = Lib.countB s ⟨#[10]⟩ from (Lib.count_one 10 s.data.toList).symm] at this
   exact this) qd qd (by rw [if_pos qd]; omega)
 rw [Nat.add_sub_cancel, hlen] at c
 have e2 : Lib.cellsOf (Lib.splitB ⟨#[10]⟩ 0 (Lib.countB s ⟨#[10]⟩) s) (Lib.countB s ⟨#[10]⟩ + 1) = ((Lib.splitB ⟨#[10]⟩ 0 (Lib.countB s ⟨#[10]⟩) s).map Value.string).toArray := by rw [← hlen]; exact Lib.cellsOf_full _
 rw [e2] at c
 have hl2 : (spl s).length = Lib.countB s ⟨#[10]⟩ + 1 := hlen
 have HG : Hid (Calls Tryz.prog 231 #[.string s, .string ⟨#[10]⟩, .int .i64 0, .int .i64 (-1)] w fun e w' => e = .returned (.slice (some ⟨w.heap.size, 0, none⟩) (spl s).length (spl s).length) ∧ w' = w.alloc (.cells ((spl s).map Value.string).toArray 9)) := by
  rw [hl2]
  exact c
 clear c e2 hl2 hlen hle
 generalize spl s = L at *
 go_enter func198, ntmps198
 go_wp2_with fail
 refine (HG.out).mono ?_
 rintro e w' ⟨rfl, rfl⟩
 go_wp2
 go_ret
 exact ⟨rfl, rfl⟩
def trl (x : ByteArray) : ByteArray := ⟨(Lib.trimLeftS x.data.toList [32, 9]).toArray⟩
theorem dropWhile_len {α : Type} (p : α → Bool) (l : List α) : (l.dropWhile p).length ≤ l.length := (List.dropWhile_sublist p).length_le
theorem trl_size (x : ByteArray) : (trl x).size ≤ x.size := by
 have h : (trl x).size = (Lib.trimLeftS x.data.toList [32, 9]).length := by unfold trl; show (Lib.trimLeftS x.data.toList [32, 9]).toArray.size = _; simp
 rw [h]
 unfold Lib.trimLeftS
 have := dropWhile_len (fun b => List.contains [32, 9] b) x.data.toList
 rw [Array.length_toList] at this
 exact this
theorem sTrimL2 (x : ByteArray) (w : World) :
  qC 230 #[.string x, .string ⟨#[32, 9]⟩] w (.string (trl x)) :=
 Any.strings_TrimLeft_laid lays161 qk x ⟨#[32, 9]⟩ w qd (ascii_of_all qd)
def tr1 (x : ByteArray) : ByteArray := ⟨(Lib.trimLeftB x.data.toList 32).toArray⟩
theorem tr1_size (x : ByteArray) : (tr1 x).size ≤ x.size := by
 have h : (tr1 x).size = (Lib.trimLeftB x.data.toList 32).length := by unfold tr1; show (Lib.trimLeftB x.data.toList 32).toArray.size = _; simp
 rw [h]
 unfold Lib.trimLeftB
 have := dropWhile_len (fun b => b == 32) x.data.toList
 rw [Array.length_toList] at this
 exact this
theorem sTrimL1 (x : ByteArray) (w : World) :
  qC 230 #[.string x, .string ⟨#[32]⟩] w (.string (tr1 x)) :=
 Calls.mono (Any.strings_TrimLeft_one lays161 x 32 qd w) (fun _ _ ⟨a, b⟩ => ⟨a, b ▸ Below.refl _ _⟩)
