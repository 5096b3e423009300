import Derived.Shelf.Strings.Builder1
import Derived.Shelf.Strings.Trim
import Derived.Shelf.Small.Strs
import Derived.Shelf.Small.Wraps
import Derived.Shelf.LaysM
import Derived.Shelf.Strconv.Itoa4
import Derived.Shelf.Strconv.Clone
import Derived.Ground.GgwProg
import Derived.Shelf.GgClosure.StringsIndexFuncTop
import Derived.Shelf.Strings.Replace
import Derived.Test.YtmgcmiflbjhakaaGreatDoorProg
import Derived.Shelf.GgClosureLib.Lays
import Derived.Shelf.Lays
import Derived.Deep.RegionHeld3
import Derived.Test.YtmgcmiflbjhakaaGreatDoorW01
import Derived.Deep.Cut
import Derived.Lib.Bytealg

/- Contracts of the library that this program comes to, laid at its own numbers by the kit's own programs (lay-shelf.mjs, lay-plain.mjs). -/
namespace Go.Proofs
open Go.Shelf
def Tryz.lays169_ren : Go.Shelf.Ren := ⟨fun | 169 => 139 | n => n, fun | 70 => 142 | 9 => 9 | 0 => 0 | 72 => 145 | 37 => 143 | 127 => 190 | 3 => 3 | 5 => 5 | n => n, fun | n => n⟩
theorem Tryz.lays169 : Go.Proofs.Lays.n169 Tryz.prog Tryz.lays169_ren := {
  mixed := by kernel_rfl
  f169 := Tryz.func139.trans (congrArg some (by kernel_rfl))
  t0 := Tryz.underlying0
  a0 := Tryz.isAgg0
  z0 := Tryz.sizeOf0
  v0 := Tryz.zeroValue0
  t3 := Tryz.underlying3
  a3 := Tryz.isAgg3
  z3 := Tryz.sizeOf3
  v3 := Tryz.zeroValue3
  t9 := Tryz.underlying9
  a9 := Tryz.isAgg9
  z9 := Tryz.sizeOf9
  v9 := Tryz.zeroValue9
  t37 := Tryz.underlying143
  a37 := Tryz.isAgg143
  z37 := Tryz.sizeOf143
  v37 := Tryz.zeroValue143
  t70 := Tryz.underlying142
  a70 := Tryz.isAgg142
  z70 := Tryz.sizeOf142
  v70 := Tryz.zeroValue142
  t72 := Tryz.underlying145
  a72 := Tryz.isAgg145
  z72 := Tryz.sizeOf145
  v72 := Tryz.zeroValue145
  t127 := Tryz.underlying190
  a127 := Tryz.isAgg190
  z127 := Tryz.sizeOf190
  v127 := Tryz.zeroValue190 }
theorem Tryz.Builder_Extra_169 : Builder.Extra Tryz.prog Tryz.lays169_ren := {
  sizeBuilder := by kernel_rfl
  liesBuilder := by kernel_rfl
  t5 := Tryz.underlying5
  a5 := Tryz.isAgg5
  z5 := Tryz.sizeOf5
  v5 := Tryz.zeroValue5
  infoByte := by kernel_rfl
  cellsByte := by kernel_rfl
  sizeByte := by kernel_rfl
  neB5 := by decide }
open Go.RowKit in
theorem Tryz.Builder_String_any (B b : Nat) (l : List UInt8) (w : World) (h : Lib.IsBuilder 145 5 B b (Lib.byteCells l) w) (hBw : B ≤ w.heap.size) :
    Calls Tryz.prog 139 #[.pointer (some ⟨b, 0, none⟩)] w fun e w' => e = .returned (.string ⟨l.toArray⟩) ∧ Below B w w' := Any.Builder_String_any Tryz.lays169 Tryz.Builder_Extra_169 B b l w h hBw
def Tryz.lays161_ren : Go.Shelf.Ren := ⟨fun | 161 => 140 | 231 => 200 | 227 => 201 | 233 => 202 | 235 => 203 | 228 => 243 | 197 => 239 | 151 => 244 | 260 => 268 | 152 => 270 | 137 => 245 | 119 => 284 | 224 => 281 | 225 => 280 | 217 => 271 | 266 => 285 | n => n, fun | 9 => 9 | 4 => 4 | 3 => 3 | 5 => 5 | 117 => 194 | 116 => 193 | 0 => 0 | 124 => 197 | 105 => 220 | 21 => 21 | 119 => 249 | 46 => 241 | 139 => 252 | 138 => 251 | n => n, fun | 3 => 3 | 4 => 4 | n => n⟩
theorem Tryz.lays161 : Go.Proofs.Lays.n161 Tryz.prog Tryz.lays161_ren := {
  mixed := by kernel_rfl
  f119 := Tryz.func284.trans (congrArg some (by kernel_rfl))
  f137 := Tryz.func245.trans (congrArg some (by kernel_rfl))
  f151 := Tryz.func244.trans (congrArg some (by kernel_rfl))
  f152 := Tryz.func270.trans (congrArg some (by kernel_rfl))
  f161 := Tryz.func140.trans (congrArg some (by kernel_rfl))
  f197 := Tryz.func239.trans (congrArg some (by kernel_rfl))
  f217 := Tryz.func271.trans (congrArg some (by kernel_rfl))
  f224 := Tryz.func281.trans (congrArg some (by kernel_rfl))
  f225 := Tryz.func280.trans (congrArg some (by kernel_rfl))
  f227 := Tryz.func201.trans (congrArg some (by kernel_rfl))
  f228 := Tryz.func243.trans (congrArg some (by kernel_rfl))
  f231 := Tryz.func200.trans (congrArg some (by kernel_rfl))
  f233 := Tryz.func202.trans (congrArg some (by kernel_rfl))
  f235 := Tryz.func203.trans (congrArg some (by kernel_rfl))
  f260 := Tryz.func268.trans (congrArg some (by kernel_rfl))
  f266 := Tryz.func285.trans (congrArg some (by kernel_rfl))
  t0 := Tryz.underlying0
  a0 := Tryz.isAgg0
  z0 := Tryz.sizeOf0
  v0 := Tryz.zeroValue0
  t3 := Tryz.underlying3
  a3 := Tryz.isAgg3
  z3 := Tryz.sizeOf3
  v3 := Tryz.zeroValue3
  t4 := Tryz.underlying4
  a4 := Tryz.isAgg4
  z4 := Tryz.sizeOf4
  v4 := Tryz.zeroValue4
  t5 := Tryz.underlying5
  a5 := Tryz.isAgg5
  z5 := Tryz.sizeOf5
  v5 := Tryz.zeroValue5
  t9 := Tryz.underlying9
  a9 := Tryz.isAgg9
  z9 := Tryz.sizeOf9
  v9 := Tryz.zeroValue9
  t21 := Tryz.underlying21
  a21 := Tryz.isAgg21
  z21 := Tryz.sizeOf21
  v21 := Tryz.zeroValue21
  t46 := Tryz.underlying241
  a46 := Tryz.isAgg241
  z46 := Tryz.sizeOf241
  v46 := Tryz.zeroValue241
  t105 := Tryz.underlying220
  a105 := Tryz.isAgg220
  z105 := Tryz.sizeOf220
  v105 := Tryz.zeroValue220
  t116 := Tryz.underlying193
  a116 := Tryz.isAgg193
  z116 := Tryz.sizeOf193
  t117 := Tryz.underlying194
  a117 := Tryz.isAgg194
  z117 := Tryz.sizeOf194
  v117 := Tryz.zeroValue194
  t119 := Tryz.underlying249
  a119 := Tryz.isAgg249
  z119 := Tryz.sizeOf249
  t124 := Tryz.underlying197
  a124 := Tryz.isAgg197
  z124 := Tryz.sizeOf197
  v124 := Tryz.zeroValue197
  t138 := Tryz.underlying251
  a138 := Tryz.isAgg251
  z138 := Tryz.sizeOf251
  v138 := Tryz.zeroValue251
  t139 := Tryz.underlying252
  a139 := Tryz.isAgg252
  z139 := Tryz.sizeOf252
  v139 := Tryz.zeroValue252
  g3 := by kernel_rfl
  g4 := by kernel_rfl }
open Go.RowKit in
theorem Tryz.strings_TrimLeft_one (s : ByteArray) (c : UInt8) (hc : c.toNat < 128) (w : World) :
    Calls Tryz.prog 140 #[.string s, .string ⟨#[c]⟩] w fun e w' => e = .returned (.string ⟨(Lib.trimLeftB s.data.toList c).toArray⟩) ∧ w' = w := Any.strings_TrimLeft_one Tryz.lays161 s c hc w
def Tryz.lays106_ren : Go.Shelf.Ren := ⟨fun | 106 => 174 | 213 => 224 | 265 => 254 | n => n, fun | 9 => 9 | 3 => 3 | n => n, fun | n => n⟩
theorem Tryz.lays106 : Go.Proofs.Lays.n106 Tryz.prog Tryz.lays106_ren := {
  mixed := by kernel_rfl
  f106 := Tryz.func174.trans (congrArg some (by kernel_rfl))
  f213 := Tryz.func224.trans (congrArg some (by kernel_rfl))
  f265 := Tryz.func254.trans (congrArg some (by kernel_rfl))
  t3 := Tryz.underlying3
  a3 := Tryz.isAgg3
  z3 := Tryz.sizeOf3
  v3 := Tryz.zeroValue3
  t9 := Tryz.underlying9
  a9 := Tryz.isAgg9
  z9 := Tryz.sizeOf9
  v9 := Tryz.zeroValue9 }
open Go.RowKit in
theorem Tryz.strings_Compare (a b : ByteArray) (w : World) :
    Calls Tryz.prog 174 #[.string a, .string b] w fun e w' => e = .returned (.int .i64 (Lib.compareBytes a.data.toList b.data.toList)) ∧ w' = w := Any.strings_Compare Tryz.lays106 a b w
def Tryz.lays137_ren : Go.Shelf.Ren := ⟨fun | 137 => 245 | 217 => 271 | 266 => 285 | n => n, fun | 9 => 9 | 5 => 5 | 3 => 3 | n => n, fun | n => n⟩
theorem Tryz.lays137 : Go.Proofs.Lays.n137 Tryz.prog Tryz.lays137_ren := {
  mixed := by kernel_rfl
  f137 := Tryz.func245.trans (congrArg some (by kernel_rfl))
  f217 := Tryz.func271.trans (congrArg some (by kernel_rfl))
  f266 := Tryz.func285.trans (congrArg some (by kernel_rfl))
  t3 := Tryz.underlying3
  a3 := Tryz.isAgg3
  z3 := Tryz.sizeOf3
  v3 := Tryz.zeroValue3
  t5 := Tryz.underlying5
  a5 := Tryz.isAgg5
  z5 := Tryz.sizeOf5
  v5 := Tryz.zeroValue5
  t9 := Tryz.underlying9
  a9 := Tryz.isAgg9
  z9 := Tryz.sizeOf9
  v9 := Tryz.zeroValue9 }
open Go.RowKit in
theorem Tryz.strings_IndexByte (s : ByteArray) (c : Int) (w : World) :
    Calls Tryz.prog 245 #[.string s, .int .u8 c] w fun e w' => e = .returned (.int .i64 (Lib.indexByte s.data.toList c.toNat.toUInt8)) ∧ w' = w := Any.strings_IndexByte Tryz.lays137 s c w
def Tryz.lays122_ren : Go.Shelf.Ren := ⟨fun | 122 => 172 | 215 => 222 | n => n, fun | 3 => 3 | 4 => 4 | n => n, fun | n => n⟩
theorem Tryz.lays122 : Go.Proofs.Lays.n122 Tryz.prog Tryz.lays122_ren := {
  mixed := by kernel_rfl
  f122 := Tryz.func172.trans (congrArg some (by kernel_rfl))
  f215 := Tryz.func222.trans (congrArg some (by kernel_rfl))
  t3 := Tryz.underlying3
  a3 := Tryz.isAgg3
  z3 := Tryz.sizeOf3
  v3 := Tryz.zeroValue3
  t4 := Tryz.underlying4
  a4 := Tryz.isAgg4
  z4 := Tryz.sizeOf4
  v4 := Tryz.zeroValue4 }
open Go.RowKit in
theorem Tryz.cmp_Compare_int (x y : Int) (w : World) :
    Calls Tryz.prog 172 #[.int .i64 x, .int .i64 y] w fun e w' => e = .returned (.int .i64 (Lib.compareInt x y)) ∧ w' = w := Any.cmp_Compare_int Tryz.lays122 x y w
def Tryz.laysM173_ren : Go.Shelf.Ren := ⟨fun | 173 => 133 | 246 => 195 | 283 => 233 | 284 => 234 | 285 => 235 | 286 => 236 | 129 => 261 | 317 => 260 | 318 => 262 | 319 => 263 | 320 => 264 | 337 => 278 | 338 => 279 | n => n, fun | 2 => 2 | 3 => 3 | 9 => 9 | 4 => 4 | 171 => 214 | 0 => 0 | 53 => 215 | 37 => 143 | 5 => 5 | 173 => 218 | 212 => 238 | 51 => 239 | 20 => 20 | 213 => 240 | 46 => 241 | 232 => 263 | 233 => 264 | n => n, fun | 17 => 2 | 18 => 6 | 19 => 7 | n => n⟩
theorem Tryz.laysM173 : Go.Proofs.LaysM.n173 Tryz.prog Tryz.laysM173_ren := {
  mixed := by kernel_rfl
  f129 := Tryz.func261.trans (congrArg some (by kernel_rfl))
  f173 := Tryz.func133.trans (congrArg some (by kernel_rfl))
  f246 := Tryz.func195.trans (congrArg some (by kernel_rfl))
  f283 := Tryz.func233.trans (congrArg some (by kernel_rfl))
  f284 := Tryz.func234.trans (congrArg some (by kernel_rfl))
  f285 := Tryz.func235.trans (congrArg some (by kernel_rfl))
  f286 := Tryz.func236.trans (congrArg some (by kernel_rfl))
  f317 := Tryz.func260.trans (congrArg some (by kernel_rfl))
  f318 := Tryz.func262.trans (congrArg some (by kernel_rfl))
  f319 := Tryz.func263.trans (congrArg some (by kernel_rfl))
  f320 := Tryz.func264.trans (congrArg some (by kernel_rfl))
  f337 := Tryz.func278.trans (congrArg some (by kernel_rfl))
  f338 := Tryz.func279.trans (congrArg some (by kernel_rfl))
  t0 := Tryz.underlying0
  a0 := Tryz.isAgg0
  z0 := Tryz.sizeOf0
  v0 := Tryz.zeroValue0
  t2 := Tryz.underlying2
  a2 := Tryz.isAgg2
  z2 := Tryz.sizeOf2
  v2 := Tryz.zeroValue2
  t3 := Tryz.underlying3
  a3 := Tryz.isAgg3
  z3 := Tryz.sizeOf3
  v3 := Tryz.zeroValue3
  t4 := Tryz.underlying4
  a4 := Tryz.isAgg4
  z4 := Tryz.sizeOf4
  v4 := Tryz.zeroValue4
  t5 := Tryz.underlying5
  a5 := Tryz.isAgg5
  z5 := Tryz.sizeOf5
  v5 := Tryz.zeroValue5
  t9 := Tryz.underlying9
  a9 := Tryz.isAgg9
  z9 := Tryz.sizeOf9
  v9 := Tryz.zeroValue9
  t20 := Tryz.underlying20
  a20 := Tryz.isAgg20
  z20 := Tryz.sizeOf20
  v20 := Tryz.zeroValue20
  t37 := Tryz.underlying143
  a37 := Tryz.isAgg143
  z37 := Tryz.sizeOf143
  v37 := Tryz.zeroValue143
  t46 := Tryz.underlying241
  a46 := Tryz.isAgg241
  z46 := Tryz.sizeOf241
  v46 := Tryz.zeroValue241
  t51 := Tryz.underlying239
  a51 := Tryz.isAgg239
  z51 := Tryz.sizeOf239
  v51 := Tryz.zeroValue239
  t53 := Tryz.underlying215
  a53 := Tryz.isAgg215
  z53 := Tryz.sizeOf215
  v53 := Tryz.zeroValue215
  t171 := Tryz.underlying214
  a171 := Tryz.isAgg214
  z171 := Tryz.sizeOf214
  v171 := Tryz.zeroValue214
  t173 := Tryz.underlying218
  a173 := Tryz.isAgg218
  z173 := Tryz.sizeOf218
  v173 := Tryz.zeroValue218
  t212 := Tryz.underlying238
  a212 := Tryz.isAgg238
  z212 := Tryz.sizeOf238
  v212 := Tryz.zeroValue238
  t213 := Tryz.underlying240
  a213 := Tryz.isAgg240
  z213 := Tryz.sizeOf240
  t232 := Tryz.underlying263
  a232 := Tryz.isAgg263
  z232 := Tryz.sizeOf263
  v232 := Tryz.zeroValue263
  t233 := Tryz.underlying264
  a233 := Tryz.isAgg264
  z233 := Tryz.sizeOf264
  v233 := Tryz.zeroValue264
  g17 := by kernel_rfl
  g18 := by kernel_rfl
  g19 := by kernel_rfl
  i0 := by kernel_rfl
  i2 := by kernel_rfl
  i3 := by kernel_rfl
  i4 := by kernel_rfl
  i5 := by kernel_rfl
  i9 := by kernel_rfl
  i20 := by kernel_rfl
  i37 := by kernel_rfl
  i46 := by kernel_rfl
  i51 := by kernel_rfl
  i53 := by kernel_rfl
  i171 := by kernel_rfl
  i173 := by kernel_rfl
  i212 := by kernel_rfl
  i232 := by kernel_rfl
  i233 := by kernel_rfl
  m17 := by kernel_rfl
  m18 := by kernel_rfl
  m19 := by kernel_rfl }
open Go.RowKit Go.Sort Go.Lib in
theorem Tryz.strconv_FormatInt_10 (n : Int) (h0 : -9223372036854775808 ≤ n) (h1 : n ≤ 9223372036854775807) (w : World) (htab : Lib.TabIs Tryz.prog w "internal/strconv.uint64pow10" .u64 Lib.pow10Tab) :
    Calls Tryz.prog 133 #[.int .i64 n, .int .i64 10] w fun e w' => e = .returned (.string ⟨(Lib.itoa n).toArray⟩) ∧ ∃ k os, w' = grow (w.drewN k) os := Any.strconv_FormatInt_10 Tryz.laysM173 n h0 h1 w htab
def Tryz.laysM316_ren : Go.Shelf.Ren := ⟨fun | 316 => 145 | n => n, fun | 9 => 9 | 3 => 3 | 4 => 4 | 37 => 143 | 0 => 0 | 127 => 190 | 5 => 5 | n => n, fun | n => n⟩
theorem Tryz.laysM316 : Go.Proofs.LaysM.n316 Tryz.prog Tryz.laysM316_ren := {
  mixed := by kernel_rfl
  f316 := Tryz.func145.trans (congrArg some (by kernel_rfl))
  t0 := Tryz.underlying0
  a0 := Tryz.isAgg0
  z0 := Tryz.sizeOf0
  v0 := Tryz.zeroValue0
  t3 := Tryz.underlying3
  a3 := Tryz.isAgg3
  z3 := Tryz.sizeOf3
  v3 := Tryz.zeroValue3
  t4 := Tryz.underlying4
  a4 := Tryz.isAgg4
  z4 := Tryz.sizeOf4
  v4 := Tryz.zeroValue4
  t9 := Tryz.underlying9
  a9 := Tryz.isAgg9
  z9 := Tryz.sizeOf9
  v9 := Tryz.zeroValue9
  t37 := Tryz.underlying143
  a37 := Tryz.isAgg143
  z37 := Tryz.sizeOf143
  v37 := Tryz.zeroValue143
  t127 := Tryz.underlying190
  a127 := Tryz.isAgg190
  z127 := Tryz.sizeOf190
  v127 := Tryz.zeroValue190
  t5 := Tryz.underlying5
  a5 := Tryz.isAgg5
  z5 := Tryz.sizeOf5
  v5 := Tryz.zeroValue5
  i0 := by kernel_rfl
  i3 := by kernel_rfl
  i4 := by kernel_rfl
  i5 := by kernel_rfl
  i9 := by kernel_rfl
  i37 := by kernel_rfl
  i127 := by kernel_rfl }
open Go.RowKit in
theorem Tryz.stringslite_Clone (s : ByteArray) (w : World) (hlim : s.size ≤ 281474976710656) :
    Calls Tryz.prog 145 #[.string s] w fun e w' => e = .returned (.string s) ∧ Below w.heap.size w w' := Any.stringslite_Clone Tryz.laysM316 s w hlim
def Tryz.laysGw17_ren : Go.Shelf.Ren := ⟨fun | 17 => 164 | 15 => 216 | 20 => 252 | n => n, fun | 9 => 9 | 23 => 169 | 4 => 4 | 3 => 3 | 0 => 0 | 21 => 21 | n => n, fun | n => n⟩
theorem Tryz.laysGw17 : Go.Proofs.LaysGw.n17 Tryz.prog Tryz.laysGw17_ren := {
  mixed := by kernel_rfl
  f15 := Tryz.func216.trans (congrArg some (by kernel_rfl))
  f17 := Tryz.func164.trans (congrArg some (by kernel_rfl))
  f20 := Tryz.func252.trans (congrArg some (by kernel_rfl))
  t0 := Tryz.underlying0
  a0 := Tryz.isAgg0
  z0 := Tryz.sizeOf0
  v0 := Tryz.zeroValue0
  i0 := by kernel_rfl
  t3 := Tryz.underlying3
  a3 := Tryz.isAgg3
  z3 := Tryz.sizeOf3
  v3 := Tryz.zeroValue3
  i3 := by kernel_rfl
  t4 := Tryz.underlying4
  a4 := Tryz.isAgg4
  z4 := Tryz.sizeOf4
  v4 := Tryz.zeroValue4
  i4 := by kernel_rfl
  t9 := Tryz.underlying9
  a9 := Tryz.isAgg9
  z9 := Tryz.sizeOf9
  v9 := Tryz.zeroValue9
  i9 := by kernel_rfl
  t21 := Tryz.underlying21
  a21 := Tryz.isAgg21
  z21 := Tryz.sizeOf21
  v21 := Tryz.zeroValue21
  i21 := by kernel_rfl
  t23 := Tryz.underlying169
  a23 := Tryz.isAgg169
  z23 := Tryz.sizeOf169
  v23 := Tryz.zeroValue169
  i23 := by kernel_rfl }
open Go.RowKit Go.Lib in
theorem Tryz.strings_ContainsFunc (g : Nat) (lb : Array Value) (eg : ∀ args w, (callFunc g args).run Tryz.prog w = .ok (.enter g args) w) (p : Nat → Bool) (s : ByteArray) (w : World) (hp : PredAt Tryz.prog g lb encR p w) :
    Calls Tryz.prog 164 #[.string s, .func (.func g) #[] lb] w fun e w' => e = .returned (.bool (decide (0 ≤ Lib.idxFunc p true s))) ∧ Below w.heap.size w w' := Any.strings_ContainsFunc Tryz.laysGw17 g lb eg p s w hp
def Tryz.lays155_ren : Go.Shelf.Ren := ⟨fun | 155 => 134 | 154 => 196 | 138 => 237 | 165 => 137 | 143 => 238 | 166 => 138 | 197 => 239 | 169 => 139 | 195 => 265 | 218 => 266 | 240 => 198 | 241 => 199 | 219 => 267 | 260 => 268 | 276 => 241 | 277 => 242 | 217 => 271 | 225 => 280 | 224 => 281 | 267 => 282 | 266 => 285 | 314 => 293 | n => n, fun | 9 => 9 | 3 => 3 | 4 => 4 | 72 => 145 | 0 => 0 | 76 => 149 | 105 => 220 | 21 => 21 | 5 => 5 | 70 => 142 | 20 => 20 | 37 => 143 | 75 => 148 | 127 => 190 | 164 => 222 | 46 => 241 | 119 => 249 | 139 => 252 | 138 => 251 | 146 => 265 | 51 => 239 | 80 => 151 | n => n, fun | 1 => 1 | 3 => 3 | 4 => 4 | n => n⟩
theorem Tryz.lays155 : Go.Proofs.Lays.n155 Tryz.prog Tryz.lays155_ren := {
  mixed := by kernel_rfl
  f138 := Tryz.func237.trans (congrArg some (by kernel_rfl))
  f143 := Tryz.func238.trans (congrArg some (by kernel_rfl))
  f154 := Tryz.func196.trans (congrArg some (by kernel_rfl))
  f155 := Tryz.func134.trans (congrArg some (by kernel_rfl))
  f165 := Tryz.func137.trans (congrArg some (by kernel_rfl))
  f166 := Tryz.func138.trans (congrArg some (by kernel_rfl))
  f169 := Tryz.func139.trans (congrArg some (by kernel_rfl))
  f195 := Tryz.func265.trans (congrArg some (by kernel_rfl))
  f197 := Tryz.func239.trans (congrArg some (by kernel_rfl))
  f217 := Tryz.func271.trans (congrArg some (by kernel_rfl))
  f218 := Tryz.func266.trans (congrArg some (by kernel_rfl))
  f219 := Tryz.func267.trans (congrArg some (by kernel_rfl))
  f224 := Tryz.func281.trans (congrArg some (by kernel_rfl))
  f225 := Tryz.func280.trans (congrArg some (by kernel_rfl))
  f240 := Tryz.func198.trans (congrArg some (by kernel_rfl))
  f241 := Tryz.func199.trans (congrArg some (by kernel_rfl))
  f260 := Tryz.func268.trans (congrArg some (by kernel_rfl))
  f266 := Tryz.func285.trans (congrArg some (by kernel_rfl))
  f267 := Tryz.func282.trans (congrArg some (by kernel_rfl))
  f276 := Tryz.func241.trans (congrArg some (by kernel_rfl))
  f277 := Tryz.func242.trans (congrArg some (by kernel_rfl))
  f314 := Tryz.func293.trans (congrArg some (by kernel_rfl))
  t0 := Tryz.underlying0
  a0 := Tryz.isAgg0
  z0 := Tryz.sizeOf0
  v0 := Tryz.zeroValue0
  t3 := Tryz.underlying3
  a3 := Tryz.isAgg3
  z3 := Tryz.sizeOf3
  v3 := Tryz.zeroValue3
  t4 := Tryz.underlying4
  a4 := Tryz.isAgg4
  z4 := Tryz.sizeOf4
  v4 := Tryz.zeroValue4
  t5 := Tryz.underlying5
  a5 := Tryz.isAgg5
  z5 := Tryz.sizeOf5
  v5 := Tryz.zeroValue5
  t9 := Tryz.underlying9
  a9 := Tryz.isAgg9
  z9 := Tryz.sizeOf9
  v9 := Tryz.zeroValue9
  t20 := Tryz.underlying20
  a20 := Tryz.isAgg20
  z20 := Tryz.sizeOf20
  v20 := Tryz.zeroValue20
  t21 := Tryz.underlying21
  a21 := Tryz.isAgg21
  z21 := Tryz.sizeOf21
  v21 := Tryz.zeroValue21
  t37 := Tryz.underlying143
  a37 := Tryz.isAgg143
  z37 := Tryz.sizeOf143
  v37 := Tryz.zeroValue143
  t46 := Tryz.underlying241
  a46 := Tryz.isAgg241
  z46 := Tryz.sizeOf241
  v46 := Tryz.zeroValue241
  t51 := Tryz.underlying239
  a51 := Tryz.isAgg239
  z51 := Tryz.sizeOf239
  v51 := Tryz.zeroValue239
  t70 := Tryz.underlying142
  a70 := Tryz.isAgg142
  z70 := Tryz.sizeOf142
  v70 := Tryz.zeroValue142
  t72 := Tryz.underlying145
  a72 := Tryz.isAgg145
  z72 := Tryz.sizeOf145
  v72 := Tryz.zeroValue145
  t75 := Tryz.underlying148
  a75 := Tryz.isAgg148
  z75 := Tryz.sizeOf148
  v75 := Tryz.zeroValue148
  t76 := Tryz.underlying149
  a76 := Tryz.isAgg149
  z76 := Tryz.sizeOf149
  v76 := Tryz.zeroValue149
  t105 := Tryz.underlying220
  a105 := Tryz.isAgg220
  z105 := Tryz.sizeOf220
  v105 := Tryz.zeroValue220
  t119 := Tryz.underlying249
  a119 := Tryz.isAgg249
  z119 := Tryz.sizeOf249
  t127 := Tryz.underlying190
  a127 := Tryz.isAgg190
  z127 := Tryz.sizeOf190
  v127 := Tryz.zeroValue190
  t138 := Tryz.underlying251
  a138 := Tryz.isAgg251
  z138 := Tryz.sizeOf251
  v138 := Tryz.zeroValue251
  t139 := Tryz.underlying252
  a139 := Tryz.isAgg252
  z139 := Tryz.sizeOf252
  v139 := Tryz.zeroValue252
  t146 := Tryz.underlying265
  a146 := Tryz.isAgg265
  z146 := Tryz.sizeOf265
  v146 := Tryz.zeroValue265
  t164 := Tryz.underlying222
  a164 := Tryz.isAgg222
  z164 := Tryz.sizeOf222
  v164 := Tryz.zeroValue222
  g1 := by kernel_rfl
  g3 := by kernel_rfl
  g4 := by kernel_rfl }
theorem Tryz.Builder_Extra_155 : Builder.Extra Tryz.prog Tryz.lays155_ren := {
  sizeBuilder := by kernel_rfl
  liesBuilder := by kernel_rfl
  t5 := Tryz.underlying5
  a5 := Tryz.isAgg5
  z5 := Tryz.sizeOf5
  v5 := Tryz.zeroValue5
  infoByte := by kernel_rfl
  cellsByte := by kernel_rfl
  sizeByte := by kernel_rfl
  neB5 := by decide }
open Go.RowKit Go.Lib in
theorem Tryz.strings_ReplaceAll (s old new : ByteArray) (m : Int) (w : World) (hs : s.size < 4294967281) (hm : w.cell? ⟨1, 0, none⟩ = some (.int .i64 m)) (h1 : 1 ≤ old.size) (hlen : s.size + Lib.countB s old * new.size ≤ 140737488355328) :
    Calls Tryz.prog 134 #[.string s, .string old, .string new] w fun e w' =>
      e = .returned (.string ⟨(Lib.replaceAll s.data.toList old.data.toList new.data.toList).toArray⟩) ∧ Below w.heap.size w w' := Any.strings_ReplaceAll Tryz.lays155 Tryz.Builder_Extra_155 s old new m w hs hm h1 hlen

end Go.Proofs

/- May a value be; what it counts as. -/
namespace Go.Proofs.YtmgcmiflbjhakaaGreatDoor
open Go.RowKit Go.Lib

def outP (r : Nat) : Bool := decide ((r : Int) < 32) || decide ((126 : Int) < (r : Int))

theorem out_pred (w : World) (B : Nat) (hB : B + 1 < w.heap.size) (hc0 : w.cell? ⟨B, 0, none⟩ = some (.int .i32 32)) (hc1 : w.cell? ⟨B + 1, 0, none⟩ = some (.int .i32 126)) :
    PredAt Tryz.prog 217 #[.pointer (some ⟨B, 0, none⟩), .pointer (some ⟨B + 1, 0, none⟩)] encR outP w := fun W r hb => by
  have hd0 : W.cell? ⟨B, 0, none⟩ = some (.int .i32 32) := (hb.cell (p := ⟨B, 0, none⟩) (by show B < _; omega)).trans hc0
  have hd1 : W.cell? ⟨B + 1, 0, none⟩ = some (.int .i32 126) := (hb.cell (p := ⟨B + 1, 0, none⟩) (by show B + 1 < _; omega)).trans hc1
  clear hc0 hc1 hb
  unfold FnGives
  by_cases h1 : (r : Int) < 32 <;> by_cases h2 : (126 : Int) < (r : Int)
  all_goals
    go_enter Tryz.func217, Tryz.ntmps217
    go_wp2
    all_goals first | (exfalso; omega) | (go_ret; exact ⟨by simp [outP, h1, h2], 0, rfl⟩)

/-- A text that may be: 40 octets at most, each 32 to 126. -/
def txtB (s : ByteArray) : Bool := !decide (0 ≤ Lib.idxFunc outP true s)

theorem contains_any (s : ByteArray) (w : World) (B : Nat) (hB : B + 1 < w.heap.size) (hc0 : w.cell? ⟨B, 0, none⟩ = some (.int .i32 32)) (hc1 : w.cell? ⟨B + 1, 0, none⟩ = some (.int .i32 126)) :
    Calls Tryz.prog 164 #[.string s, .func (.func 217) #[] #[.pointer (some ⟨B, 0, none⟩), .pointer (some ⟨B + 1, 0, none⟩)]] w fun e w' => e = .returned (.bool (!txtB s)) ∧ Below w.heap.size w w' :=
  (Tryz.strings_ContainsFunc _ _ (enters_of Tryz.func217 (by kernel_rfl) rfl) _ s w (out_pred w B hB hc0 hc1)).mono fun e w' h => ⟨by rw [h.1, txtB, Bool.not_not], h.2⟩

/-- May it be? -/
def mayB (k i : Int) (s : ByteArray) : Bool :=
  if k = 0 then decide (i = 0) && s.toList.isEmpty else if k = 1 then s.toList.isEmpty else if k = 2 then decide (i = 0) && decide (s.size ≤ 40) && txtB s else if k = 3 then s.toList.isEmpty && (decide (i = 0) || decide (i = 1)) else false

theorem ret_bool {a b : Bool} (h : a = b) : Ending.returned (.bool a) = .returned (.bool b) := by rw [h]

set_option maxHeartbeats 800000 in
theorem may_not2 (k i : Int) (s : ByteArray) (w : World) (hk : ¬ k = 2) :
    Calls Tryz.prog 93 #[.agg #[.int .i64 k, .int .i64 i, .string s]] w fun e w' => e = .returned (.bool (mayB k i s)) ∧ Below w.heap.size w w' := by
  go_enter Tryz.func93, Tryz.ntmps93
  go_wp2
  all_goals
    go_ret
    refine ⟨ret_bool (by simp_all [mayB] <;> (try (rw [Bool.eq_iff_iff]; simp; omega))), ?_⟩
    repeat (first | exact Below.refl _ _ | (refine bSet3 ?_ (by (try simp) <;> omega) _ _ _) | (refine bOn' (by assumption) (by (try simp) <;> omega) ?_) | (refine Below.drew ?_) | (refine Below.alloc ?_ (by (try simp) <;> omega) _))

theorem outside_any (w : World) :
    Calls Tryz.prog 165 #[.int .i32 32, .int .i32 126] w fun e w' => e = .returned (.func (.func 217) #[] #[.pointer (some ⟨w.heap.size, 0, none⟩), .pointer (some ⟨w.heap.size + 1, 0, none⟩)]) ∧ w' = (w.alloc (.cells #[.int .i32 32] 21)).alloc (.cells #[.int .i32 126] 21) := by
  go_enter Tryz.func165, Tryz.ntmps165
  go_wp2
  go_ret
  exact ⟨rfl, rfl⟩

def outR : Value → List Nat → World → Prop := fun u F w' => ∃ b, F = [b, b + 1] ∧ u = .func (.func 217) #[] #[.pointer (some ⟨b, 0, none⟩), .pointer (some ⟨b + 1, 0, none⟩)] ∧ w'.cell? ⟨b, 0, none⟩ = some (.int .i32 32) ∧ w'.cell? ⟨b + 1, 0, none⟩ = some (.int .i32 126) ∧ b + 1 < w'.heap.size
theorem outR_lasting : ∀ u F, Lasting (outR u F) := by
  rintro u F w w' hb ⟨b, h1, h2, h3, h4, h5⟩
  exact ⟨b, h1, h2, (hb.cell (p := ⟨b, 0, none⟩) (by show b < _; omega)).trans h3, (hb.cell (p := ⟨b + 1, 0, none⟩) h5).trans h4, Nat.lt_of_lt_of_le h5 hb.size⟩

theorem outR_cells {v : Value} {b : Nat} {w : World} (h : outR v [b, b + 1] w) : w.cell? ⟨b, 0, none⟩ = some (.int .i32 32) ∧ w.cell? ⟨b + 1, 0, none⟩ = some (.int .i32 126) ∧ b + 1 < w.heap.size := by
  obtain ⟨b', e1, _, h1, h2, h3⟩ := h
  obtain rfl : b = b' := by injection e1
  exact ⟨h1, h2, h3⟩

set_option maxHeartbeats 800000 in
theorem may_2 (i : Int) (s : ByteArray) (w : World) (hi : i = 0) (hs : s.size ≤ 40) :
    Calls Tryz.prog 93 #[.agg #[.int .i64 2, .int .i64 i, .string s]] w fun e w' => e = .returned (.bool (txtB s)) ∧ Below w.heap.size w w' := by
  go_enter Tryz.func93, Tryz.ntmps93
  have hsz : decide ((s.size : Int) ≤ 40) = true := decide_eq_true (by omega)
  subst hi
  go_wp2
  refine detL_begin [.val (.pointer (some ⟨w.heap.size, 1, none⟩)), .val (.int .i64 0), .val (.bool true), .val (.bool true), .val (.pointer (some ⟨w.heap.size, 2, none⟩)), .val (.string s), .val (.int .i64 s.size), .val (.bool true), .val (.bool true), .val (.bool true), .val (.pointer (some ⟨w.heap.size, 2, none⟩)), .val (.string s), .rel (outR), .val (.bool (!txtB s)), .val (.bool (txtB s)), .val (.bool (txtB s)), .val (.bool (txtB s))] 17 (by kernel_rfl) ?_
  repeat
    (refine detL_val (by kernel_rfl) (yields_of rfl fun w1 hb1 => ?_) ?_
     · have hc1 := (bcell hb1).1
       clear hb1
       go_simp
       with_reducible exact Det1_same
     simp only [Act.put, List.setIfInBounds_toArray, List.set_cons_zero, List.set_cons_succ])
  refine detL_rel (by kernel_rfl) (yields_rel (by rfl) outR_lasting fun w1 hw1 => ?_) ?_
  · clear hw1
    go_simp
    exact (outside_any _).mono fun e w2 h => ⟨_, _, h.1, ⟨_, rfl, rfl, by rw [h.2]; simp, by rw [h.2]; simp, by rw [h.2]; simp⟩, by rw [h.2]; simp <;> omega, by rw [h.2]; exact ((Below.refl _ _).alloc (Nat.le_refl _) _).alloc (by simp) _⟩
  rintro v F w1 hw1
  obtain ⟨b, rfl, rfl, -⟩ := (hw1.ents _ List.mem_cons_self).1
  simp only [Act.put, List.setIfInBounds_toArray, List.set_cons_zero, List.set_cons_succ]
  refine detL_val (by kernel_rfl) (yields_env (by rfl) fun w2 hw2 => ?_) ?_
  · have h := outR_cells (hw2.ents _ (List.mem_filter.2 ⟨List.mem_cons_self, by kernel_rfl⟩)).1
    have h1 := h.1
    have h2 := h.2.1
    have h3 := h.2.2
    clear hw1 hw2 h
    go_simp
    exact Det1_enter (contains_any s _ _ h3 h1 h2)
  simp only [Act.put, List.setIfInBounds_toArray, List.set_cons_zero, List.set_cons_succ]
  repeat
    (refine detL_val (by kernel_rfl) (yields_of rfl fun w1 hb1 => ?_) ?_
     · have hc1 := (bcell hb1).1
       clear hb1
       go_simp
       with_reducible exact Det1_same
     simp only [Act.put, List.setIfInBounds_toArray, List.set_cons_zero, List.set_cons_succ])
  refine detL_done (by kernel_rfl) fun w1 hw1 => ?_
  have hb1 := hw1.below
  go_wp2
  go_ret
  refine ⟨rfl, ?_⟩
  repeat (first | (with_reducible exact Below.refl _ _) | ((with_reducible refine cSet3 ?_ ?_ _ _ _); (· ((try simp) <;> omega))) | (with_reducible refine Below.drew ?_) | ((with_reducible refine cAlloc ?_ ?_ _); (· ((try simp) <;> omega))) | ((with_reducible refine cOn (by assumption) ?_ ?_); (· ((try simp) <;> omega))))

set_option maxHeartbeats 800000 in
theorem may_2a (i : Int) (s : ByteArray) (w : World) (hi : ¬ i = 0) :
    Calls Tryz.prog 93 #[.agg #[.int .i64 2, .int .i64 i, .string s]] w fun e w' => e = .returned (.bool false) ∧ Below w.heap.size w w' := by
  go_enter Tryz.func93, Tryz.ntmps93
  have hbi : (i == 0) = false := beq_eq_false_iff_ne.2 hi
  go_wp2
  refine detL_begin [.val (.pointer (some ⟨w.heap.size, 1, none⟩)), .val (.int .i64 i), .val (.bool false), .val (.bool false), .val (undef), .val (undef), .val (undef), .val (undef), .val (.bool false), .val (.bool false), .val (undef), .val (undef), .val (undef), .val (undef), .val (undef), .val (.bool false), .val (.bool false)] 17 (by kernel_rfl) ?_
  repeat
    (first
      | (refine detL_val (by kernel_rfl) (yields_of rfl fun w1 hb1 => ?_) ?_
         · have hc1 := bcellD hb1
           clear hb1
           go_simp
           with_reducible first
             | exact Det1_same
         simp only [Act.put, List.setIfInBounds_toArray, List.set_cons_zero, List.set_cons_succ])
      | (refine detL_val (by kernel_rfl) (yields_not rfl) ?_
         simp only [Act.put, List.setIfInBounds_toArray, List.set_cons_zero, List.set_cons_succ]))
  refine detL_done (by kernel_rfl) fun w1 hw1 => ?_
  have hb1 := hw1.below
  go_wp2
  go_ret
  refine ⟨rfl, ?_⟩
  repeat (first | (with_reducible exact Below.refl _ _) | ((with_reducible refine cSet3 ?_ ?_ _ _ _); (· ((try simp) <;> omega))) | (with_reducible refine Below.drew ?_) | ((with_reducible refine cAlloc ?_ ?_ _); (· ((try simp) <;> omega))) | ((with_reducible refine cOn (by assumption) ?_ ?_); (· ((try simp) <;> omega))))

set_option maxHeartbeats 800000 in
theorem may_2b (i : Int) (s : ByteArray) (w : World) (hi : i = 0) (hs : ¬ s.size ≤ 40) :
    Calls Tryz.prog 93 #[.agg #[.int .i64 2, .int .i64 i, .string s]] w fun e w' => e = .returned (.bool false) ∧ Below w.heap.size w w' := by
  go_enter Tryz.func93, Tryz.ntmps93
  have hsz : decide ((s.size : Int) ≤ 40) = false := decide_eq_false (by omega)
  subst hi
  go_wp2
  refine detL_begin [.val (.pointer (some ⟨w.heap.size, 1, none⟩)), .val (.int .i64 0), .val (.bool true), .val (.bool true), .val (.pointer (some ⟨w.heap.size, 2, none⟩)), .val (.string s), .val (.int .i64 s.size), .val (.bool false), .val (.bool false), .val (.bool false), .val (undef), .val (undef), .val (undef), .val (undef), .val (undef), .val (.bool false), .val (.bool false)] 17 (by kernel_rfl) ?_
  repeat
    (first
      | (refine detL_val (by kernel_rfl) (yields_of rfl fun w1 hb1 => ?_) ?_
         · have hc1 := bcellD hb1
           clear hb1
           go_simp
           with_reducible first
             | exact Det1_same
         simp only [Act.put, List.setIfInBounds_toArray, List.set_cons_zero, List.set_cons_succ])
      | (refine detL_val (by kernel_rfl) (yields_not rfl) ?_
         simp only [Act.put, List.setIfInBounds_toArray, List.set_cons_zero, List.set_cons_succ]))
  refine detL_done (by kernel_rfl) fun w1 hw1 => ?_
  have hb1 := hw1.below
  go_wp2
  go_ret
  refine ⟨rfl, ?_⟩
  repeat (first | (with_reducible exact Below.refl _ _) | ((with_reducible refine cSet3 ?_ ?_ _ _ _); (· ((try simp) <;> omega))) | (with_reducible refine Below.drew ?_) | ((with_reducible refine cAlloc ?_ ?_ _); (· ((try simp) <;> omega))) | ((with_reducible refine cOn (by assumption) ?_ ?_); (· ((try simp) <;> omega))))

theorem may_any (k i : Int) (s : ByteArray) (w : World) :
    Calls Tryz.prog 93 #[.agg #[.int .i64 k, .int .i64 i, .string s]] w fun e w' => e = .returned (.bool (mayB k i s)) ∧ Below w.heap.size w w' := by
  by_cases hk : k = 2
  · subst hk
    have e : mayB 2 i s = (decide (i = 0) && decide (s.size ≤ 40) && txtB s) := by simp [mayB]
    by_cases hi : i = 0
    · by_cases hs : s.size ≤ 40
      · rw [show mayB 2 i s = txtB s by rw [e]; simp [hi, hs]]
        exact may_2 i s w hi hs
      · rw [show mayB 2 i s = false by rw [e]; simp [hs]]
        exact may_2b i s w hi hs
    · rw [show mayB 2 i s = false by rw [e]; simp [hi]]
      exact may_2a i s w hi
  · exact may_not2 k i s w hk

theorem may_t (k i : Int) (s : ByteArray) (w : World) (h : mayB k i s = true) :
    Calls Tryz.prog 93 #[.agg #[.int .i64 k, .int .i64 i, .string s]] w fun e w' => e = .returned (.bool true) ∧ Below w.heap.size w w' := h ▸ may_any k i s w
theorem may_f (k i : Int) (s : ByteArray) (w : World) (h : mayB k i s = false) :
    Calls Tryz.prog 93 #[.agg #[.int .i64 k, .int .i64 i, .string s]] w fun e w' => e = .returned (.bool false) ∧ Below w.heap.size w w' := h ▸ may_any k i s w

set_option maxHeartbeats 800000 in
theorem held_t (k i : Int) (s : ByteArray) (w : World) (h : mayB k i s = true) :
    Calls Tryz.prog 101 #[.agg #[.int .i64 k, .int .i64 i, .string s]] w fun e w' => e = .returned (.agg #[.int .i64 k, .int .i64 i, .string s]) ∧ Below w.heap.size w w' := by
  have H := Lib.hid h
  clear h
  go_enter Tryz.func101, Tryz.ntmps101
  go_wp2_with (first
    | (go_at_call 93; refine (may_t _ _ _ _ H.out).mono ?_; rintro e w1 ⟨rfl, hb1⟩; have hc1 := (bcell hb1).1; have hf1 := (bcell hb1).2; have hy1 := hb1.size; (try simp at hy1); have hz1_0 : w.heap.size < w1.heap.size := (by omega); have hz1_1 : w.heap.size + 1 < w1.heap.size := (by omega)))
  refine bodyPost_ret (v := .agg #[.int .i64 k, .int .i64 i, .string s]) (by simp [results, Tryz.results101, go_sem, *]; done) rfl ⟨rfl, ?_⟩
  repeat (first | (with_reducible exact Below.refl _ _) | ((with_reducible refine cSet3 ?_ ?_ _ _ _); (· ((try simp) <;> omega))) | (with_reducible refine Below.drew ?_) | ((with_reducible refine cAlloc ?_ ?_ _); (· ((try simp) <;> omega))) | ((with_reducible refine cOn (by assumption) ?_ ?_); (· ((try simp) <;> omega))))

set_option maxHeartbeats 800000 in
theorem held_f (k i : Int) (s : ByteArray) (w : World) (h : mayB k i s = false) :
    Calls Tryz.prog 101 #[.agg #[.int .i64 k, .int .i64 i, .string s]] w fun e w' => e = .returned (.agg #[.int .i64 0, .int .i64 0, .string ⟨#[]⟩]) ∧ Below w.heap.size w w' := by
  have H := Lib.hid h
  clear h
  go_enter Tryz.func101, Tryz.ntmps101
  go_wp2_with (first
    | (go_at_call 93; refine (may_f _ _ _ _ H.out).mono ?_; rintro e w1 ⟨rfl, hb1⟩; have hc1 := (bcell hb1).1; have hf1 := (bcell hb1).2; have hy1 := hb1.size; (try simp at hy1); have hz1_0 : w.heap.size < w1.heap.size := (by omega); have hz1_1 : w.heap.size + 1 < w1.heap.size := (by omega)))
  refine bodyPost_ret (v := .agg #[.int .i64 0, .int .i64 0, .string ⟨#[]⟩]) (by simp [results, Tryz.results101, go_sem, *]; done) rfl ⟨rfl, ?_⟩
  repeat (first | (with_reducible exact Below.refl _ _) | ((with_reducible refine cSet3 ?_ ?_ _ _ _); (· ((try simp) <;> omega))) | (with_reducible refine Below.drew ?_) | ((with_reducible refine cAlloc ?_ ?_ _); (· ((try simp) <;> omega))) | ((with_reducible refine cOn (by assumption) ?_ ?_); (· ((try simp) <;> omega))))

end Go.Proofs.YtmgcmiflbjhakaaGreatDoor

/- Order, Equal, Less, Plus, Minus, IsNull. -/
namespace Go.Proofs.YtmgcmiflbjhakaaGreatDoor
open Go.RowKit Go.Lib

theorem fld0 (k i : Value) (s : Value) (w : World) : (Instr.field 23 (.agg #[k, i, s]) 0).run Tryz.prog w = .ok k w := by kernel_rfl
theorem fld1 (k i : Value) (s : Value) (w : World) : (Instr.field 23 (.agg #[k, i, s]) 1).run Tryz.prog w = .ok i w := by kernel_rfl

set_option maxHeartbeats 400000 in
theorem cmp64 (x y : Int) (w : World) :
    Calls Tryz.prog 173 #[.int .i64 x, .int .i64 y] w fun e w' => e = .returned (.int .i64 (Lib.compareInt x y)) ∧ w' = w := by
  go_enter Tryz.func173, Tryz.ntmps173
  go_wp2
  all_goals
    go_ret
    refine ⟨ret_int ?_, rfl⟩
    unfold Lib.compareInt
    repeat (split <;> try omega)

def or3 (x y z : Int) : Int := if x ≠ 0 then x else if y ≠ 0 then y else z
set_option maxHeartbeats 400000 in
theorem cmpOr (b : Nat) (x y z : Int) (w : World) (h0 : w.cell? ⟨b, 0, none⟩ = some (.int .i64 x)) (h1 : w.cell? ⟨b, 1, none⟩ = some (.int .i64 y)) (h2 : w.cell? ⟨b, 2, none⟩ = some (.int .i64 z)) :
    Calls Tryz.prog 171 #[.slice (some ⟨b, 0, none⟩) 3 3] w fun e w' => e = .returned (.int .i64 (or3 x y z)) ∧ w' = w := by
  go_enter Tryz.func171, Tryz.ntmps171
  go_wp2
  refine wp_loop_rounds 4 ?_
  all_goals (try (rw [rounds_succ]; go_wp2))
  all_goals (try (rw [rounds_succ]; go_wp2))
  all_goals (try (rw [rounds_succ]; go_wp2))
  all_goals (try (rw [rounds_succ]; go_wp2))
  go_ways
  all_goals go_ret
  all_goals refine ⟨ret_int ?_, rfl⟩
  all_goals unfold or3
  all_goals (simp_all; done)

def hK (k i : Int) (s : ByteArray) : Int := if mayB k i s then k else 0
def hI (k i : Int) (s : ByteArray) : Int := if mayB k i s then i else 0
def hS (k i : Int) (s : ByteArray) : ByteArray := if mayB k i s then s else ⟨#[]⟩

theorem held_any (k i : Int) (s : ByteArray) (w : World) :
    Calls Tryz.prog 101 #[.agg #[.int .i64 k, .int .i64 i, .string s]] w fun e w' => e = .returned (.agg #[.int .i64 (hK k i s), .int .i64 (hI k i s), .string (hS k i s)]) ∧ Below w.heap.size w w' := by
  cases h : mayB k i s with
  | true =>
    have := held_t k i s w h
    unfold hK hI hS
    simp only [h, if_true]
    exact this
  | false =>
    have := held_f k i s w h
    unfold hK hI hS
    simp only [h, Bool.false_eq_true, if_false]
    exact this

theorem wp_gen {P : Program} {Q : Exit → Act → World → Prop} {c : Code} {a : Act} {W : World} (p : World → Prop) (h : p W) (k : ∀ W', p W' → c.wp P Q a W') : c.wp P Q a W := k W h
theorem same_below {P : Program} {f : FuncId} {args : Array Value} {w : World} {r : Ending} (h : Calls P f args w fun e w' => e = r ∧ w' = w) : Calls P f args w fun e w' => e = r ∧ Below w.heap.size w w' :=
  h.mono fun _ _ h => ⟨h.1, h.2 ▸ Below.refl _ _⟩

/-- Two boxes, which hold what the two count as. -/
structure Boxes (w : World) (k i : Int) (s : ByteArray) (k' i' : Int) (s' : ByteArray) (W : World) : Prop where
  below : Below w.heap.size w W
  size : w.heap.size + 1 + 1 ≤ W.heap.size
  k : W.cell? ⟨w.heap.size, 0, none⟩ = some (.int .i64 k)
  i : W.cell? ⟨w.heap.size, 1, none⟩ = some (.int .i64 i)
  s : W.cell? ⟨w.heap.size, 2, none⟩ = some (.string s)
  k' : W.cell? ⟨w.heap.size + 1, 0, none⟩ = some (.int .i64 k')
  i' : W.cell? ⟨w.heap.size + 1, 1, none⟩ = some (.int .i64 i')
  s' : W.cell? ⟨w.heap.size + 1, 2, none⟩ = some (.string s')

theorem Boxes.later {w W W' : World} {k i : Int} {s : ByteArray} {k' i' : Int} {s' : ByteArray} (h : Boxes w k i s k' i' s' W) (hb : Below W.heap.size W W') : Boxes w k i s k' i' s' W' := by
  have hs := h.size
  exact ⟨h.below.trans (hb.mono h.below.size), Nat.le_trans hs hb.size,
    (hb.cell (p := ⟨_, _, none⟩) (by show w.heap.size < _; omega)).trans h.k, (hb.cell (p := ⟨_, _, none⟩) (by show w.heap.size < _; omega)).trans h.i, (hb.cell (p := ⟨_, _, none⟩) (by show w.heap.size < _; omega)).trans h.s,
    (hb.cell (p := ⟨_, _, none⟩) (by show w.heap.size + 1 < _; omega)).trans h.k', (hb.cell (p := ⟨_, _, none⟩) (by show w.heap.size + 1 < _; omega)).trans h.i', (hb.cell (p := ⟨_, _, none⟩) (by show w.heap.size + 1 < _; omega)).trans h.s'⟩

theorem Boxes.start (w : World) (k i : Int) (s : ByteArray) (k' i' : Int) (s' : ByteArray) (t t' : TypeId) :
    Boxes w k i s k' i' s' ((w.alloc (.cells #[.int .i64 k, .int .i64 i, .string s] t)).alloc (.cells #[.int .i64 k', .int .i64 i', .string s'] t')).drew :=
  ⟨(((Below.refl _ _).alloc (Nat.le_refl _) _).alloc (by simp) _).drew, by simp, by simp [go_sem], by simp [go_sem], by simp [go_sem], by simp [go_sem], by simp [go_sem], by simp [go_sem]⟩

theorem Boxes.store {w W : World} {k i : Int} {s : ByteArray} {k' i' : Int} {s' : ByteArray} (h : Boxes w k i s k' i' s' W) (K I : Int) (S : ByteArray) (K' I' : Int) (S' : ByteArray) :
    Boxes w K I S K' I' S' ((((((W.setCell ⟨w.heap.size, 0, none⟩ (.int .i64 K)).setCell ⟨w.heap.size, 1, none⟩ (.int .i64 I)).setCell ⟨w.heap.size, 2, none⟩ (.string S)).setCell ⟨w.heap.size + 1, 0, none⟩ (.int .i64 K')).setCell ⟨w.heap.size + 1, 1, none⟩ (.int .i64 I')).setCell ⟨w.heap.size + 1, 2, none⟩ (.string S')) := by
  have h1 := h.k
  have h2 := h.i
  have h3 := h.s
  have h4 := h.k'
  have h5 := h.i'
  have h6 := h.s'
  exact ⟨cSet3 (by omega) (cSet3 (Nat.le_refl _) h.below _ _ _) _ _ _, by simpa using h.size, by simp [go_sem, *], by simp [go_sem, *], by simp [go_sem, *], by simp [go_sem, *], by simp [go_sem, *], by simp [go_sem, *]⟩

def ordH (k i : Int) (s : ByteArray) (k' i' : Int) (s' : ByteArray) : Int := or3 (Lib.compareInt k k') (Lib.compareInt i i') (Lib.compareBytes s.data.toList s'.data.toList)
/-- Which is first. -/
def ordN (k i : Int) (s : ByteArray) (k' i' : Int) (s' : ByteArray) : Int := ordH (hK k i s) (hI k i s) (hS k i s) (hK k' i' s') (hI k' i' s') (hS k' i' s')
/-- Are both of one kind, and neither of them NULL? -/
def alikeB (k i : Int) (s : ByteArray) (k' i' : Int) (s' : ByteArray) : Bool := decide ((hK k i s) = (hK k' i' s')) && ((hK k i s) != 0)

set_option maxRecDepth 100000 in
set_option maxHeartbeats 800000 in
theorem order_any (k i : Int) (s : ByteArray) (k' i' : Int) (s' : ByteArray) (w : World) :
    Calls Tryz.prog 104 #[.agg #[.int .i64 k, .int .i64 i, .string s], .agg #[.int .i64 k', .int .i64 i', .string s']] w fun e w' => e = .returned (.int .i64 (ordN k i s k' i' s')) ∧ Below w.heap.size w w' := by
  go_enter Tryz.func104, Tryz.ntmps104
  go_wp2
  refine detL_begin [.val (.agg #[.int .i64 k, .int .i64 i, .string s]), .val (.agg #[.int .i64 (hK k i s), .int .i64 (hI k i s), .string (hS k i s)]), .val (.agg #[.int .i64 k', .int .i64 i', .string s']), .val (.agg #[.int .i64 (hK k' i' s'), .int .i64 (hI k' i' s'), .string (hS k' i' s')])] 4 (by kernel_rfl) ?_
  repeat
    (refine detL_val (by kernel_rfl) (yields_of rfl fun w1 hb1 => ?_) ?_
     · have hc1 := bcellD hb1
       clear hb1
       go_simp
       with_reducible first
         | exact Det1_same
         | exact Det1_enter (held_any _ _ _ _)
     simp only [Act.put, List.setIfInBounds_toArray, List.set_cons_zero, List.set_cons_succ])
  refine detL_tail rfl (by kernel_rfl) fun w1 hw1 => ?_
  have hb1 := hw1.below
  clear hw1
  have hc1 := (bcell hb1).1
  have hf1 := (bcell hb1).2
  have hy1 := hb1.size
  (try simp at hy1)
  have hz1_0 : w.heap.size < w1.heap.size := (by omega)
  have hz1_1 : w.heap.size + 1 < w1.heap.size := (by omega)
  go_upto_region 2 with (fail)
  refine wp_gen (Boxes w (hK k i s) (hI k i s) (hS k i s) (hK k' i' s') (hI k' i' s') (hS k' i' s')) (((Boxes.start w k i s k' i' s' 23 23).later hb1).store _ _ _ _ _ _) ?_
  intro W hW
  clear hc1 hf1 hb1 hy1 hz1_0 hz1_1
  have hk := hW.k
  have hi := hW.i
  have hs := hW.s
  have hk' := hW.k'
  have hi' := hW.i'
  have hs' := hW.s'
  have hn0 : w.heap.size < W.heap.size := by have := hW.size; omega
  have hn1 : w.heap.size + 1 < W.heap.size := by have := hW.size; omega
  refine detL_begin [.val (.pointer (some ⟨w.heap.size, 0, none⟩)), .val (.int .i64 (hK k i s)), .val (.pointer (some ⟨w.heap.size + 1, 0, none⟩)), .val (.int .i64 (hK k' i' s')), .val (.int .i64 (Lib.compareInt (hK k i s) (hK k' i' s'))), .val (.pointer (some ⟨w.heap.size, 1, none⟩)), .val (.int .i64 (hI k i s)), .val (.pointer (some ⟨w.heap.size + 1, 1, none⟩)), .val (.int .i64 (hI k' i' s')), .val (.int .i64 (Lib.compareInt (hI k i s) (hI k' i' s'))), .val (.pointer (some ⟨w.heap.size, 2, none⟩)), .val (.string (hS k i s)), .val (.pointer (some ⟨w.heap.size + 1, 2, none⟩)), .val (.string (hS k' i' s')), .val (.int .i64 (Lib.compareBytes (hS k i s).data.toList (hS k' i' s').data.toList))] 15 (by kernel_rfl) ?_
  repeat
    (refine detL_val (by kernel_rfl) (yields_of rfl fun w1 hb1 => ?_) ?_
     · have hc1 := bcellD hb1
       clear hb1
       go_simp
       with_reducible first
         | exact Det1_same
         | exact Det1_enter (same_below (Tryz.cmp_Compare_int _ _ _))
         | exact Det1_enter (same_below (cmp64 _ _ _))
         | exact Det1_enter (same_below (Tryz.strings_Compare _ _ _))
     simp only [Act.put, List.setIfInBounds_toArray, List.set_cons_zero, List.set_cons_succ])
  refine detL_tail rfl (by kernel_rfl) fun w1 hw1 => ?_
  have hb1 := hW.below.drew.trans (hw1.below.mono hW.below.size)
  clear hw1 hk hi hs hk' hi' hs' hn0 hn1
  go_wp2_with (first
    | (go_at_call 171; refine (cmpOr _ (Lib.compareInt (hK k i s) (hK k' i' s')) (Lib.compareInt (hI k i s) (hI k' i' s')) (Lib.compareBytes (hS k i s).data.toList (hS k' i' s').data.toList) _ (by simp) (by simp) (by simp)).mono ?_; rintro e w3 ⟨rfl, rfl⟩))
  go_ret
  refine ⟨rfl, hb1.trans ?_⟩
  exact ((Below.refl _ _).alloc hb1.size _)

set_option maxRecDepth 100000 in
set_option maxHeartbeats 800000 in
theorem alike_any (k i : Int) (s : ByteArray) (k' i' : Int) (s' : ByteArray) (w : World) :
    Calls Tryz.prog 103 #[.agg #[.int .i64 k, .int .i64 i, .string s], .agg #[.int .i64 k', .int .i64 i', .string s']] w fun e w' => e = .returned (.bool (alikeB k i s k' i' s')) ∧ Below w.heap.size w w' := by
  go_enter Tryz.func103, Tryz.ntmps103
  go_wp2
  refine detL_begin [.val (.agg #[.int .i64 k, .int .i64 i, .string s]), .val (.agg #[.int .i64 (hK k i s), .int .i64 (hI k i s), .string (hS k i s)]), .val (.agg #[.int .i64 k', .int .i64 i', .string s']), .val (.agg #[.int .i64 (hK k' i' s'), .int .i64 (hI k' i' s'), .string (hS k' i' s')])] 4 (by kernel_rfl) ?_
  repeat
    (refine detL_val (by kernel_rfl) (yields_of rfl fun w1 hb1 => ?_) ?_
     · have hc1 := bcellD hb1
       clear hb1
       go_simp
       with_reducible first
         | exact Det1_same
         | exact Det1_enter (held_any _ _ _ _)
     simp only [Act.put, List.setIfInBounds_toArray, List.set_cons_zero, List.set_cons_succ])
  refine detL_tail rfl (by kernel_rfl) fun w1 hw1 => ?_
  have hb1 := hw1.below
  clear hw1
  have hc1 := (bcell hb1).1
  have hf1 := (bcell hb1).2
  have hy1 := hb1.size
  (try simp at hy1)
  have hz1_0 : w.heap.size < w1.heap.size := (by omega)
  have hz1_1 : w.heap.size + 1 < w1.heap.size := (by omega)
  go_upto_region 2 with (fail)
  refine wp_gen (Boxes w (hK k i s) (hI k i s) (hS k i s) (hK k' i' s') (hI k' i' s') (hS k' i' s')) (((Boxes.start w k i s k' i' s' 23 23).later hb1).store _ _ _ _ _ _) ?_
  intro W hW
  clear hc1 hf1 hb1 hy1 hz1_0 hz1_1
  have hk := hW.k
  have hi := hW.i
  have hs := hW.s
  have hk' := hW.k'
  have hi' := hW.i'
  have hs' := hW.s'
  have hn0 : w.heap.size < W.heap.size := by have := hW.size; omega
  have hn1 : w.heap.size + 1 < W.heap.size := by have := hW.size; omega
  go_wp2
  all_goals
    go_ret
    refine ⟨ret_bool ?_, hW.below⟩
    unfold alikeB
    simp_all

def b2i (b : Bool) : Int := if b then 1 else 0
theorem truth_any (b : Bool) (w : World) :
    Calls Tryz.prog 100 #[.bool b] w fun e w' => e = .returned (.agg #[.int .i64 3, .int .i64 (b2i b), .string ⟨#[]⟩]) ∧ Below w.heap.size w w' := by
  cases b with
  | true => exact truth_t w
  | false => exact truth_f w

set_option maxRecDepth 100000 in
set_option maxHeartbeats 800000 in
theorem equal_no (k i : Int) (s : ByteArray) (k' i' : Int) (s' : ByteArray) (w : World) (ha : alikeB k i s k' i' s' = false) :
    Calls Tryz.prog 58 #[.agg #[.int .i64 k, .int .i64 i, .string s], .agg #[.int .i64 k', .int .i64 i', .string s']] w fun e w' => e = .returned (.agg #[.int .i64 0, .int .i64 0, .string ⟨#[]⟩]) ∧ Below w.heap.size w w' := by
  have H := Lib.hid ha
  clear ha
  go_enter Tryz.func58, Tryz.ntmps58
  go_wp2_with (first
    | (go_at_call 103; refine ((alike_any _ _ _ _ _ _ _).mono (fun _ _ h => (H.out ▸ h : _ = Ending.returned (.bool false) ∧ _))).mono ?_; rintro e w1 ⟨rfl, hb1⟩; have hc1 := (bcell hb1).1; have hf1 := (bcell hb1).2; have hy1 := hb1.size; (try simp at hy1); have hz1_0 : w.heap.size < w1.heap.size := (by omega); have hz1_1 : w.heap.size + 1 < w1.heap.size := (by omega); have hz1_2 : w.heap.size + 1 + 1 < w1.heap.size := (by omega)))
  (refine bodyPost_ret (v := .agg #[.int .i64 0, .int .i64 0, .string ⟨#[]⟩]) ?_ rfl ⟨rfl, ?_⟩; (· (simp [results, Tryz.results58, go_sem, *]; done)))
  repeat (first | (with_reducible exact Below.refl _ _) | ((with_reducible refine cSet3 ?_ ?_ _ _ _); (· ((try simp) <;> omega))) | (with_reducible refine Below.drew ?_) | ((with_reducible refine cAlloc ?_ ?_ _); (· ((try simp) <;> omega))) | ((with_reducible refine cOn (by assumption) ?_ ?_); (· ((try simp) <;> omega))))

set_option maxRecDepth 100000 in
set_option maxHeartbeats 800000 in
theorem equal_yes (k i : Int) (s : ByteArray) (k' i' : Int) (s' : ByteArray) (w : World) (ha : alikeB k i s k' i' s' = true) :
    Calls Tryz.prog 58 #[.agg #[.int .i64 k, .int .i64 i, .string s], .agg #[.int .i64 k', .int .i64 i', .string s']] w fun e w' => e = .returned (.agg #[.int .i64 3, .int .i64 (b2i (ordN k i s k' i' s' == 0)), .string ⟨#[]⟩]) ∧ Below w.heap.size w w' := by
  have H := Lib.hid ha
  clear ha
  go_enter Tryz.func58, Tryz.ntmps58
  go_wp2_with (first
    | (go_at_call 103; refine ((alike_any _ _ _ _ _ _ _).mono (fun _ _ h => (H.out ▸ h : _ = Ending.returned (.bool true) ∧ _))).mono ?_; rintro e w1 ⟨rfl, hb1⟩; have hc1 := (bcell hb1).1; have hf1 := (bcell hb1).2; have hy1 := hb1.size; (try simp at hy1); have hz1_0 : w.heap.size < w1.heap.size := (by omega); have hz1_1 : w.heap.size + 1 < w1.heap.size := (by omega); have hz1_2 : w.heap.size + 1 + 1 < w1.heap.size := (by omega))
    | (go_at_call 104; refine (order_any _ _ _ _ _ _ _).mono ?_; rintro e w1 ⟨rfl, hb1⟩; have hc1 := (bcell hb1).1; have hf1 := (bcell hb1).2; have hy1 := hb1.size; (try simp at hy1); have hz1_0 : w.heap.size < w1.heap.size := (by omega); have hz1_1 : w.heap.size + 1 < w1.heap.size := (by omega); have hz1_2 : w.heap.size + 1 + 1 < w1.heap.size := (by omega))
    | (go_at_call 100; refine (truth_any _ _).mono ?_; rintro e w1 ⟨rfl, hb1⟩; have hc1 := (bcell hb1).1; have hf1 := (bcell hb1).2; have hy1 := hb1.size; (try simp at hy1); have hz1_0 : w.heap.size < w1.heap.size := (by omega); have hz1_1 : w.heap.size + 1 < w1.heap.size := (by omega); have hz1_2 : w.heap.size + 1 + 1 < w1.heap.size := (by omega)))
  (refine bodyPost_ret (v := .agg #[.int .i64 3, .int .i64 (b2i (ordN k i s k' i' s' == 0)), .string ⟨#[]⟩]) ?_ rfl ⟨rfl, ?_⟩; (· (simp [results, Tryz.results58, go_sem, *]; done)))
  repeat (first | (with_reducible exact Below.refl _ _) | ((with_reducible refine cSet3 ?_ ?_ _ _ _); (· ((try simp) <;> omega))) | (with_reducible refine Below.drew ?_) | ((with_reducible refine cAlloc ?_ ?_ _); (· ((try simp) <;> omega))) | ((with_reducible refine cOn (by assumption) ?_ ?_); (· ((try simp) <;> omega))))

set_option maxRecDepth 100000 in
set_option maxHeartbeats 800000 in
theorem less_no (k i : Int) (s : ByteArray) (k' i' : Int) (s' : ByteArray) (w : World) (ha : alikeB k i s k' i' s' = false) :
    Calls Tryz.prog 59 #[.agg #[.int .i64 k, .int .i64 i, .string s], .agg #[.int .i64 k', .int .i64 i', .string s']] w fun e w' => e = .returned (.agg #[.int .i64 0, .int .i64 0, .string ⟨#[]⟩]) ∧ Below w.heap.size w w' := by
  have H := Lib.hid ha
  clear ha
  go_enter Tryz.func59, Tryz.ntmps59
  go_wp2_with (first
    | (go_at_call 103; refine ((alike_any _ _ _ _ _ _ _).mono (fun _ _ h => (H.out ▸ h : _ = Ending.returned (.bool false) ∧ _))).mono ?_; rintro e w1 ⟨rfl, hb1⟩; have hc1 := (bcell hb1).1; have hf1 := (bcell hb1).2; have hy1 := hb1.size; (try simp at hy1); have hz1_0 : w.heap.size < w1.heap.size := (by omega); have hz1_1 : w.heap.size + 1 < w1.heap.size := (by omega); have hz1_2 : w.heap.size + 1 + 1 < w1.heap.size := (by omega)))
  (refine bodyPost_ret (v := .agg #[.int .i64 0, .int .i64 0, .string ⟨#[]⟩]) ?_ rfl ⟨rfl, ?_⟩; (· (simp [results, Tryz.results59, go_sem, *]; done)))
  repeat (first | (with_reducible exact Below.refl _ _) | ((with_reducible refine cSet3 ?_ ?_ _ _ _); (· ((try simp) <;> omega))) | (with_reducible refine Below.drew ?_) | ((with_reducible refine cAlloc ?_ ?_ _); (· ((try simp) <;> omega))) | ((with_reducible refine cOn (by assumption) ?_ ?_); (· ((try simp) <;> omega))))

set_option maxRecDepth 100000 in
set_option maxHeartbeats 800000 in
theorem less_yes (k i : Int) (s : ByteArray) (k' i' : Int) (s' : ByteArray) (w : World) (ha : alikeB k i s k' i' s' = true) :
    Calls Tryz.prog 59 #[.agg #[.int .i64 k, .int .i64 i, .string s], .agg #[.int .i64 k', .int .i64 i', .string s']] w fun e w' => e = .returned (.agg #[.int .i64 3, .int .i64 (b2i (decide (ordN k i s k' i' s' < 0))), .string ⟨#[]⟩]) ∧ Below w.heap.size w w' := by
  have H := Lib.hid ha
  clear ha
  go_enter Tryz.func59, Tryz.ntmps59
  go_wp2_with (first
    | (go_at_call 103; refine ((alike_any _ _ _ _ _ _ _).mono (fun _ _ h => (H.out ▸ h : _ = Ending.returned (.bool true) ∧ _))).mono ?_; rintro e w1 ⟨rfl, hb1⟩; have hc1 := (bcell hb1).1; have hf1 := (bcell hb1).2; have hy1 := hb1.size; (try simp at hy1); have hz1_0 : w.heap.size < w1.heap.size := (by omega); have hz1_1 : w.heap.size + 1 < w1.heap.size := (by omega); have hz1_2 : w.heap.size + 1 + 1 < w1.heap.size := (by omega))
    | (go_at_call 104; refine (order_any _ _ _ _ _ _ _).mono ?_; rintro e w1 ⟨rfl, hb1⟩; have hc1 := (bcell hb1).1; have hf1 := (bcell hb1).2; have hy1 := hb1.size; (try simp at hy1); have hz1_0 : w.heap.size < w1.heap.size := (by omega); have hz1_1 : w.heap.size + 1 < w1.heap.size := (by omega); have hz1_2 : w.heap.size + 1 + 1 < w1.heap.size := (by omega))
    | (go_at_call 100; refine (truth_any _ _).mono ?_; rintro e w1 ⟨rfl, hb1⟩; have hc1 := (bcell hb1).1; have hf1 := (bcell hb1).2; have hy1 := hb1.size; (try simp at hy1); have hz1_0 : w.heap.size < w1.heap.size := (by omega); have hz1_1 : w.heap.size + 1 < w1.heap.size := (by omega); have hz1_2 : w.heap.size + 1 + 1 < w1.heap.size := (by omega)))
  (refine bodyPost_ret (v := .agg #[.int .i64 3, .int .i64 (b2i (decide (ordN k i s k' i' s' < 0))), .string ⟨#[]⟩]) ?_ rfl ⟨rfl, ?_⟩; (· (simp [results, Tryz.results59, go_sem, *]; done)))
  repeat (first | (with_reducible exact Below.refl _ _) | ((with_reducible refine cSet3 ?_ ?_ _ _ _); (· ((try simp) <;> omega))) | (with_reducible refine Below.drew ?_) | ((with_reducible refine cAlloc ?_ ?_ _); (· ((try simp) <;> omega))) | ((with_reducible refine cOn (by assumption) ?_ ?_); (· ((try simp) <;> omega))))

def numsB (k i : Int) (s : ByteArray) (k' i' : Int) (s' : ByteArray) : Bool := ((hK k i s) == 1) && ((hK k' i' s') == 1)

set_option maxRecDepth 100000 in
set_option maxHeartbeats 800000 in
theorem numbers_any (k i : Int) (s : ByteArray) (k' i' : Int) (s' : ByteArray) (w : World) :
    Calls Tryz.prog 105 #[.agg #[.int .i64 k, .int .i64 i, .string s], .agg #[.int .i64 k', .int .i64 i', .string s']] w fun e w' => e = .returned (.bool (numsB k i s k' i' s')) ∧ Below w.heap.size w w' := by
  unfold numsB
  have hfl := fld0
  cases h1 : (hK k i s == 1) with
  | true =>
    rw [Bool.true_and]
    go_enter Tryz.func105, Tryz.ntmps105
    go_wp2_with (first
    | (go_at_call 101; refine (held_any _ _ _ _).mono ?_; rintro e w1 ⟨rfl, hb1⟩; have hc1 := (bcell hb1).1; have hf1 := (bcell hb1).2; have hy1 := hb1.size; (try simp at hy1); have hz1_0 : w.heap.size < w1.heap.size := (by omega); have hz1_1 : w.heap.size + 1 < w1.heap.size := (by omega)))
    all_goals
      go_ret
      refine ⟨rfl, ?_⟩
      repeat (first | (with_reducible exact Below.refl _ _) | ((with_reducible refine cSet3 ?_ ?_ _ _ _); (· ((try simp) <;> omega))) | (with_reducible refine Below.drew ?_) | ((with_reducible refine cAlloc ?_ ?_ _); (· ((try simp) <;> omega))) | ((with_reducible refine cOn (by assumption) ?_ ?_); (· ((try simp) <;> omega))))
  | false =>
    rw [Bool.false_and]
    go_enter Tryz.func105, Tryz.ntmps105
    go_wp2_with (first
    | (go_at_call 101; refine (held_any _ _ _ _).mono ?_; rintro e w1 ⟨rfl, hb1⟩; have hc1 := (bcell hb1).1; have hf1 := (bcell hb1).2; have hy1 := hb1.size; (try simp at hy1); have hz1_0 : w.heap.size < w1.heap.size := (by omega); have hz1_1 : w.heap.size + 1 < w1.heap.size := (by omega)))
    all_goals
      go_ret
      refine ⟨rfl, ?_⟩
      repeat (first | (with_reducible exact Below.refl _ _) | ((with_reducible refine cSet3 ?_ ?_ _ _ _); (· ((try simp) <;> omega))) | (with_reducible refine Below.drew ?_) | ((with_reducible refine cAlloc ?_ ?_ _); (· ((try simp) <;> omega))) | ((with_reducible refine cOn (by assumption) ?_ ?_); (· ((try simp) <;> omega))))

def badPlus (i i' : Int) : Bool := !(decide (i < wrap64 (i + i')) == decide (0 < i'))
def badMinus (i i' : Int) : Bool := !(decide (wrap64 (i - i') < i) == decide (0 < i'))

set_option maxRecDepth 100000 in
set_option maxHeartbeats 800000 in
theorem plus_no (k i : Int) (s : ByteArray) (k' i' : Int) (s' : ByteArray) (w : World) (ha : numsB k i s k' i' s' = false) :
    Calls Tryz.prog 60 #[.agg #[.int .i64 k, .int .i64 i, .string s], .agg #[.int .i64 k', .int .i64 i', .string s']] w fun e w' => e = .returned (.agg #[.int .i64 0, .int .i64 0, .string ⟨#[]⟩]) ∧ Below w.heap.size w w' := by
  have H := Lib.hid ha
  clear ha
  go_enter Tryz.func60, Tryz.ntmps60
  go_wp2_with (first
    | (go_at_call 105; refine ((numbers_any _ _ _ _ _ _ _).mono (fun _ _ h => (H.out ▸ h : _ = Ending.returned (.bool false) ∧ _))).mono ?_; rintro e w1 ⟨rfl, hb1⟩; have hc1 := (bcell hb1).1; have hf1 := (bcell hb1).2; have hy1 := hb1.size; (try simp at hy1); have hz1_0 : w.heap.size < w1.heap.size := (by omega); have hz1_1 : w.heap.size + 1 < w1.heap.size := (by omega); have hz1_2 : w.heap.size + 1 + 1 < w1.heap.size := (by omega)))
  (refine bodyPost_ret (v := .agg #[.int .i64 0, .int .i64 0, .string ⟨#[]⟩]) ?_ rfl ⟨rfl, ?_⟩; (· (simp [results, Tryz.results60, go_sem, *]; done)))
  repeat (first | (with_reducible exact Below.refl _ _) | ((with_reducible refine cSet3 ?_ ?_ _ _ _); (· ((try simp) <;> omega))) | (with_reducible refine Below.drew ?_) | ((with_reducible refine cAlloc ?_ ?_ _); (· ((try simp) <;> omega))) | ((with_reducible refine cOn (by assumption) ?_ ?_); (· ((try simp) <;> omega))))

set_option maxRecDepth 100000 in
set_option maxHeartbeats 800000 in
theorem plus_bad (k i : Int) (s : ByteArray) (k' i' : Int) (s' : ByteArray) (w : World) (ha : numsB k i s k' i' s' = true) (hb : badPlus i i' = true) :
    Calls Tryz.prog 60 #[.agg #[.int .i64 k, .int .i64 i, .string s], .agg #[.int .i64 k', .int .i64 i', .string s']] w fun e w' => e = .returned (.agg #[.int .i64 0, .int .i64 0, .string ⟨#[]⟩]) ∧ Below w.heap.size w w' := by
  have H := Lib.hid ha
  have HB := Lib.hid hb
  clear ha hb
  go_enter Tryz.func60, Tryz.ntmps60
  go_wp2_with (first
    | (go_at_call 105; refine ((numbers_any _ _ _ _ _ _ _).mono (fun _ _ h => (H.out ▸ h : _ = Ending.returned (.bool true) ∧ _))).mono ?_; rintro e w1 ⟨rfl, hb1⟩; have hc1 := (bcell hb1).1; have hf1 := (bcell hb1).2; have hy1 := hb1.size; (try simp at hy1); have hz1_0 : w.heap.size < w1.heap.size := (by omega); have hz1_1 : w.heap.size + 1 < w1.heap.size := (by omega); have hz1_2 : w.heap.size + 1 + 1 < w1.heap.size := (by omega)))
  all_goals first
    | (exfalso
       have h1 : (!(decide (i < wrap64 (i + i')) == decide (0 < i'))) = false := by assumption
       have h2 := HB.out
       unfold badPlus at h2
       rw [h1] at h2
       cases h2)
    | ((refine bodyPost_ret (v := .agg #[.int .i64 0, .int .i64 0, .string ⟨#[]⟩]) ?_ rfl ⟨rfl, ?_⟩; (· (simp [results, Tryz.results60, go_sem, *]; done)))
       repeat (first | (with_reducible exact Below.refl _ _) | ((with_reducible refine cSet3 ?_ ?_ _ _ _); (· ((try simp) <;> omega))) | (with_reducible refine Below.drew ?_) | ((with_reducible refine cAlloc ?_ ?_ _); (· ((try simp) <;> omega))) | ((with_reducible refine cOn (by assumption) ?_ ?_); (· ((try simp) <;> omega)))))

set_option maxRecDepth 100000 in
set_option maxHeartbeats 800000 in
theorem plus_yes (k i : Int) (s : ByteArray) (k' i' : Int) (s' : ByteArray) (w : World) (ha : numsB k i s k' i' s' = true) (hb : badPlus i i' = false) :
    Calls Tryz.prog 60 #[.agg #[.int .i64 k, .int .i64 i, .string s], .agg #[.int .i64 k', .int .i64 i', .string s']] w fun e w' => e = .returned (.agg #[.int .i64 1, .int .i64 (wrap64 (i + i')), .string ⟨#[]⟩]) ∧ Below w.heap.size w w' := by
  have H := Lib.hid ha
  have HB := Lib.hid hb
  clear ha hb
  go_enter Tryz.func60, Tryz.ntmps60
  go_wp2_with (first
    | (go_at_call 105; refine ((numbers_any _ _ _ _ _ _ _).mono (fun _ _ h => (H.out ▸ h : _ = Ending.returned (.bool true) ∧ _))).mono ?_; rintro e w1 ⟨rfl, hb1⟩; have hc1 := (bcell hb1).1; have hf1 := (bcell hb1).2; have hy1 := hb1.size; (try simp at hy1); have hz1_0 : w.heap.size < w1.heap.size := (by omega); have hz1_1 : w.heap.size + 1 < w1.heap.size := (by omega); have hz1_2 : w.heap.size + 1 + 1 < w1.heap.size := (by omega)))
  all_goals first
    | (exfalso
       have h1 : (!(decide (i < wrap64 (i + i')) == decide (0 < i'))) = true := by assumption
       have h2 := HB.out
       unfold badPlus at h2
       rw [h1] at h2
       cases h2)
    | ((refine bodyPost_ret (v := .agg #[.int .i64 1, .int .i64 (wrap64 (i + i')), .string ⟨#[]⟩]) ?_ rfl ⟨rfl, ?_⟩; (· (simp [results, Tryz.results60, go_sem, *]; done)))
       repeat (first | (with_reducible exact Below.refl _ _) | ((with_reducible refine cSet3 ?_ ?_ _ _ _); (· ((try simp) <;> omega))) | (with_reducible refine Below.drew ?_) | ((with_reducible refine cAlloc ?_ ?_ _); (· ((try simp) <;> omega))) | ((with_reducible refine cOn (by assumption) ?_ ?_); (· ((try simp) <;> omega)))))

set_option maxRecDepth 100000 in
set_option maxHeartbeats 800000 in
theorem minus_no (k i : Int) (s : ByteArray) (k' i' : Int) (s' : ByteArray) (w : World) (ha : numsB k i s k' i' s' = false) :
    Calls Tryz.prog 61 #[.agg #[.int .i64 k, .int .i64 i, .string s], .agg #[.int .i64 k', .int .i64 i', .string s']] w fun e w' => e = .returned (.agg #[.int .i64 0, .int .i64 0, .string ⟨#[]⟩]) ∧ Below w.heap.size w w' := by
  have H := Lib.hid ha
  clear ha
  go_enter Tryz.func61, Tryz.ntmps61
  go_wp2_with (first
    | (go_at_call 105; refine ((numbers_any _ _ _ _ _ _ _).mono (fun _ _ h => (H.out ▸ h : _ = Ending.returned (.bool false) ∧ _))).mono ?_; rintro e w1 ⟨rfl, hb1⟩; have hc1 := (bcell hb1).1; have hf1 := (bcell hb1).2; have hy1 := hb1.size; (try simp at hy1); have hz1_0 : w.heap.size < w1.heap.size := (by omega); have hz1_1 : w.heap.size + 1 < w1.heap.size := (by omega); have hz1_2 : w.heap.size + 1 + 1 < w1.heap.size := (by omega)))
  (refine bodyPost_ret (v := .agg #[.int .i64 0, .int .i64 0, .string ⟨#[]⟩]) ?_ rfl ⟨rfl, ?_⟩; (· (simp [results, Tryz.results61, go_sem, *]; done)))
  repeat (first | (with_reducible exact Below.refl _ _) | ((with_reducible refine cSet3 ?_ ?_ _ _ _); (· ((try simp) <;> omega))) | (with_reducible refine Below.drew ?_) | ((with_reducible refine cAlloc ?_ ?_ _); (· ((try simp) <;> omega))) | ((with_reducible refine cOn (by assumption) ?_ ?_); (· ((try simp) <;> omega))))

set_option maxRecDepth 100000 in
set_option maxHeartbeats 800000 in
theorem minus_bad (k i : Int) (s : ByteArray) (k' i' : Int) (s' : ByteArray) (w : World) (ha : numsB k i s k' i' s' = true) (hb : badMinus i i' = true) :
    Calls Tryz.prog 61 #[.agg #[.int .i64 k, .int .i64 i, .string s], .agg #[.int .i64 k', .int .i64 i', .string s']] w fun e w' => e = .returned (.agg #[.int .i64 0, .int .i64 0, .string ⟨#[]⟩]) ∧ Below w.heap.size w w' := by
  have H := Lib.hid ha
  have HB := Lib.hid hb
  clear ha hb
  go_enter Tryz.func61, Tryz.ntmps61
  go_wp2_with (first
    | (go_at_call 105; refine ((numbers_any _ _ _ _ _ _ _).mono (fun _ _ h => (H.out ▸ h : _ = Ending.returned (.bool true) ∧ _))).mono ?_; rintro e w1 ⟨rfl, hb1⟩; have hc1 := (bcell hb1).1; have hf1 := (bcell hb1).2; have hy1 := hb1.size; (try simp at hy1); have hz1_0 : w.heap.size < w1.heap.size := (by omega); have hz1_1 : w.heap.size + 1 < w1.heap.size := (by omega); have hz1_2 : w.heap.size + 1 + 1 < w1.heap.size := (by omega)))
  all_goals first
    | (exfalso
       have h1 : (!(decide (wrap64 (i - i') < i) == decide (0 < i'))) = false := by assumption
       have h2 := HB.out
       unfold badMinus at h2
       rw [h1] at h2
       cases h2)
    | ((refine bodyPost_ret (v := .agg #[.int .i64 0, .int .i64 0, .string ⟨#[]⟩]) ?_ rfl ⟨rfl, ?_⟩; (· (simp [results, Tryz.results61, go_sem, *]; done)))
       repeat (first | (with_reducible exact Below.refl _ _) | ((with_reducible refine cSet3 ?_ ?_ _ _ _); (· ((try simp) <;> omega))) | (with_reducible refine Below.drew ?_) | ((with_reducible refine cAlloc ?_ ?_ _); (· ((try simp) <;> omega))) | ((with_reducible refine cOn (by assumption) ?_ ?_); (· ((try simp) <;> omega)))))

set_option maxRecDepth 100000 in
set_option maxHeartbeats 800000 in
theorem minus_yes (k i : Int) (s : ByteArray) (k' i' : Int) (s' : ByteArray) (w : World) (ha : numsB k i s k' i' s' = true) (hb : badMinus i i' = false) :
    Calls Tryz.prog 61 #[.agg #[.int .i64 k, .int .i64 i, .string s], .agg #[.int .i64 k', .int .i64 i', .string s']] w fun e w' => e = .returned (.agg #[.int .i64 1, .int .i64 (wrap64 (i - i')), .string ⟨#[]⟩]) ∧ Below w.heap.size w w' := by
  have H := Lib.hid ha
  have HB := Lib.hid hb
  clear ha hb
  go_enter Tryz.func61, Tryz.ntmps61
  go_wp2_with (first
    | (go_at_call 105; refine ((numbers_any _ _ _ _ _ _ _).mono (fun _ _ h => (H.out ▸ h : _ = Ending.returned (.bool true) ∧ _))).mono ?_; rintro e w1 ⟨rfl, hb1⟩; have hc1 := (bcell hb1).1; have hf1 := (bcell hb1).2; have hy1 := hb1.size; (try simp at hy1); have hz1_0 : w.heap.size < w1.heap.size := (by omega); have hz1_1 : w.heap.size + 1 < w1.heap.size := (by omega); have hz1_2 : w.heap.size + 1 + 1 < w1.heap.size := (by omega)))
  all_goals first
    | (exfalso
       have h1 : (!(decide (wrap64 (i - i') < i) == decide (0 < i'))) = true := by assumption
       have h2 := HB.out
       unfold badMinus at h2
       rw [h1] at h2
       cases h2)
    | ((refine bodyPost_ret (v := .agg #[.int .i64 1, .int .i64 (wrap64 (i - i')), .string ⟨#[]⟩]) ?_ rfl ⟨rfl, ?_⟩; (· (simp [results, Tryz.results61, go_sem, *]; done)))
       repeat (first | (with_reducible exact Below.refl _ _) | ((with_reducible refine cSet3 ?_ ?_ _ _ _); (· ((try simp) <;> omega))) | (with_reducible refine Below.drew ?_) | ((with_reducible refine cAlloc ?_ ?_ _); (· ((try simp) <;> omega))) | ((with_reducible refine cOn (by assumption) ?_ ?_); (· ((try simp) <;> omega)))))

set_option maxRecDepth 100000 in
set_option maxHeartbeats 800000 in
theorem isNull_any (k i : Int) (s : ByteArray) (w : World) :
    Calls Tryz.prog 54 #[.agg #[.int .i64 k, .int .i64 i, .string s]] w fun e w' => e = .returned (.agg #[.int .i64 3, .int .i64 (b2i ((hK k i s) == 0)), .string ⟨#[]⟩]) ∧ Below w.heap.size w w' := by
  have hfl := fld0
  go_enter Tryz.func54, Tryz.ntmps54
  go_wp2_with (first
    | (go_at_call 101; refine (held_any _ _ _ _).mono ?_; rintro e w1 ⟨rfl, hb1⟩; have hc1 := (bcell hb1).1; have hf1 := (bcell hb1).2; have hy1 := hb1.size; (try simp at hy1); have hz1_0 : w.heap.size < w1.heap.size := (by omega); have hz1_1 : w.heap.size + 1 < w1.heap.size := (by omega))
    | (go_at_call 100; refine (truth_any _ _).mono ?_; rintro e w1 ⟨rfl, hb1⟩; have hc1 := (bcell hb1).1; have hf1 := (bcell hb1).2; have hy1 := hb1.size; (try simp at hy1); have hz1_0 : w.heap.size < w1.heap.size := (by omega); have hz1_1 : w.heap.size + 1 < w1.heap.size := (by omega)))
  (refine bodyPost_ret (v := .agg #[.int .i64 3, .int .i64 (b2i ((hK k i s) == 0)), .string ⟨#[]⟩]) ?_ rfl ⟨rfl, ?_⟩; (· (simp [results, Tryz.results54, go_sem, *]; done)))
  repeat (first | (with_reducible exact Below.refl _ _) | ((with_reducible refine cSet3 ?_ ?_ _ _ _); (· ((try simp) <;> omega))) | (with_reducible refine Below.drew ?_) | ((with_reducible refine cAlloc ?_ ?_ _); (· ((try simp) <;> omega))) | ((with_reducible refine cOn (by assumption) ?_ ?_); (· ((try simp) <;> omega))))

end Go.Proofs.YtmgcmiflbjhakaaGreatDoor
