/- The contracts of the library, laid at this dump (written by program). -/
import Derived.Shelf.Strings.Builder1
import Derived.Shelf.Strings.Builder2
import Derived.Shelf.Strings.Trim
import Derived.Shelf.Small.Utf8
import Derived.Shelf.Small.Strs
import Derived.Shelf.Strings.BuilderF
import Derived.Shelf.Strings.Search1
import Derived.Shelf.Strings.Prefix
import Derived.Shelf.Unicode.Decode
import Derived.Shelf.Strings.Runes
import Derived.Shelf.Strings.AsciiSet
import Derived.Shelf.Bits.Mul64
import Derived.Shelf.Strings.Repeat
import Derived.Shelf.Unicode.DecodeSlow
import Derived.Shelf.Unicode.DecodeAny
import Derived.Shelf.Unicode.DecodeLast
import Derived.Test.YtncnildpbccpaaaDoorProg
import Derived.Test.YtncnildpbccpaaaDoorKa
import Derived.Deep.RegionLaw
import Derived.Deep.LoopGhost
import Derived.IntWalk
set_option maxRecDepth 100000
namespace Go.Proofs
open Go.Shelf
def Tryd.lays170_ren : Go.Shelf.Ren := ⟨fun | 170 => 56 | n => n, fun | 70 => 92 | 3 => 3 | 0 => 0 | 72 => 94 | 37 => 45 | 5 => 5 | n => n, fun | n => n⟩
theorem Tryd.lays170 : Go.Proofs.Lays.n170 Tryd.prog Tryd.lays170_ren := {
  mixed := by kernel_rfl
  f170 := Tryd.func56.trans (congrArg some (by kernel_rfl))
  t0 := Tryd.underlying0
  a0 := Tryd.isAgg0
  z0 := Tryd.sizeOf0
  v0 := Tryd.zeroValue0
  t3 := Tryd.underlying3
  a3 := Tryd.isAgg3
  z3 := Tryd.sizeOf3
  v3 := Tryd.zeroValue3
  t37 := Tryd.underlying45
  a37 := Tryd.isAgg45
  z37 := Tryd.sizeOf45
  v37 := Tryd.zeroValue45
  t70 := Tryd.underlying92
  a70 := Tryd.isAgg92
  z70 := Tryd.sizeOf92
  v70 := Tryd.zeroValue92
  t72 := Tryd.underlying94
  a72 := Tryd.isAgg94
  z72 := Tryd.sizeOf94
  v72 := Tryd.zeroValue94 }
open Go.RowKit in
theorem Tryd.Builder_Len (B b : Nat) (bs : List Value) (w : World) (h : Lib.IsBuilder 94 5 B b bs w) :
    Calls Tryd.prog 56 #[.pointer (some ⟨b, 0, none⟩)] w fun e w' => e = .returned (.int .i64 bs.length) ∧ w' = w := Any.Builder_Len Tryd.lays170 B b bs w h
def Tryd.lays169_ren : Go.Shelf.Ren := ⟨fun | 169 => 57 | n => n, fun | 70 => 92 | 9 => 9 | 0 => 0 | 72 => 94 | 37 => 45 | 127 => 117 | 3 => 3 | 5 => 5 | n => n, fun | n => n⟩
theorem Tryd.lays169 : Go.Proofs.Lays.n169 Tryd.prog Tryd.lays169_ren := {
  mixed := by kernel_rfl
  f169 := Tryd.func57.trans (congrArg some (by kernel_rfl))
  t0 := Tryd.underlying0
  a0 := Tryd.isAgg0
  z0 := Tryd.sizeOf0
  v0 := Tryd.zeroValue0
  t3 := Tryd.underlying3
  a3 := Tryd.isAgg3
  z3 := Tryd.sizeOf3
  v3 := Tryd.zeroValue3
  t9 := Tryd.underlying9
  a9 := Tryd.isAgg9
  z9 := Tryd.sizeOf9
  v9 := Tryd.zeroValue9
  t37 := Tryd.underlying45
  a37 := Tryd.isAgg45
  z37 := Tryd.sizeOf45
  v37 := Tryd.zeroValue45
  t70 := Tryd.underlying92
  a70 := Tryd.isAgg92
  z70 := Tryd.sizeOf92
  v70 := Tryd.zeroValue92
  t72 := Tryd.underlying94
  a72 := Tryd.isAgg94
  z72 := Tryd.sizeOf94
  v72 := Tryd.zeroValue94
  t127 := Tryd.underlying117
  a127 := Tryd.isAgg117
  z127 := Tryd.sizeOf117
  v127 := Tryd.zeroValue117 }
theorem Tryd.Builder_Extra_169 : Builder.Extra Tryd.prog Tryd.lays169_ren := {
  sizeBuilder := by kernel_rfl
  liesBuilder := by kernel_rfl
  t5 := Tryd.underlying5
  a5 := Tryd.isAgg5
  z5 := Tryd.sizeOf5
  v5 := Tryd.zeroValue5
  infoByte := by kernel_rfl
  cellsByte := by kernel_rfl
  sizeByte := by kernel_rfl
  neB5 := by decide }
open Go.RowKit in
theorem Tryd.Builder_String (B b : Nat) (l : List UInt8) (w : World) (h : Lib.IsBuilder 94 5 B b (Lib.byteCells l) w) (h0 : l ≠ []) :
    Calls Tryd.prog 57 #[.pointer (some ⟨b, 0, none⟩)] w fun e w' => e = .returned (.string ⟨l.toArray⟩) ∧ Below B w w' := Any.Builder_String Tryd.lays169 Tryd.Builder_Extra_169 B b l w h h0
open Go.RowKit in
theorem Tryd.Builder_String_empty (B b : Nat) (w : World) (h : Lib.IsBuilder 94 5 B b [] w) (hBw : B ≤ w.heap.size) :
    Calls Tryd.prog 57 #[.pointer (some ⟨b, 0, none⟩)] w fun e w' => e = .returned (.string ⟨#[]⟩) ∧ Below B w w' := Any.Builder_String_empty Tryd.lays169 Tryd.Builder_Extra_169 B b w h hBw
open Go.RowKit in
theorem Tryd.Builder_String_any (B b : Nat) (l : List UInt8) (w : World) (h : Lib.IsBuilder 94 5 B b (Lib.byteCells l) w) (hBw : B ≤ w.heap.size) :
    Calls Tryd.prog 57 #[.pointer (some ⟨b, 0, none⟩)] w fun e w' => e = .returned (.string ⟨l.toArray⟩) ∧ Below B w w' := Any.Builder_String_any Tryd.lays169 Tryd.Builder_Extra_169 B b l w h hBw
def Tryd.lays241_ren : Go.Shelf.Ren := ⟨fun | 241 => 78 | 277 => 93 | n => n, fun | 70 => 92 | 3 => 3 | 0 => 0 | 72 => 94 | 37 => 45 | 5 => 5 | n => n, fun | n => n⟩
theorem Tryd.lays241 : Go.Proofs.Lays.n241 Tryd.prog Tryd.lays241_ren := {
  mixed := by kernel_rfl
  f241 := Tryd.func78.trans (congrArg some (by kernel_rfl))
  f277 := Tryd.func93.trans (congrArg some (by kernel_rfl))
  t0 := Tryd.underlying0
  a0 := Tryd.isAgg0
  z0 := Tryd.sizeOf0
  v0 := Tryd.zeroValue0
  t3 := Tryd.underlying3
  a3 := Tryd.isAgg3
  z3 := Tryd.sizeOf3
  v3 := Tryd.zeroValue3
  t37 := Tryd.underlying45
  a37 := Tryd.isAgg45
  z37 := Tryd.sizeOf45
  v37 := Tryd.zeroValue45
  t70 := Tryd.underlying92
  a70 := Tryd.isAgg92
  z70 := Tryd.sizeOf92
  v70 := Tryd.zeroValue92
  t72 := Tryd.underlying94
  a72 := Tryd.isAgg94
  z72 := Tryd.sizeOf94
  v72 := Tryd.zeroValue94 }
theorem Tryd.Builder_Extra_241 : Builder.Extra Tryd.prog Tryd.lays241_ren := {
  sizeBuilder := by kernel_rfl
  liesBuilder := by kernel_rfl
  t5 := Tryd.underlying5
  a5 := Tryd.isAgg5
  z5 := Tryd.sizeOf5
  v5 := Tryd.zeroValue5
  infoByte := by kernel_rfl
  cellsByte := by kernel_rfl
  sizeByte := by kernel_rfl
  neB5 := by decide }
open Go.RowKit in
theorem Tryd.Builder_grow_fresh (B b n : Nat) (w : World) (hB : B ≤ b) (hbk : w.heap[b]? = some (.cells #[.pointer (some ⟨b, 0, none⟩), .slice none 0 0] 94 (0, 0))) (hBw : B ≤ w.heap.size) (hn : n ≤ 281474976710656) :
    Calls Tryd.prog 78 #[.pointer (some ⟨b, 0, none⟩), .int .i64 n] w fun e w' => e = .returned (.tuple #[]) ∧ (Lib.BuilderAt 94 5 B b (.pointer (some ⟨b, 0, none⟩)) [] w' ∧ Below B w w') := Any.Builder_grow_fresh Tryd.lays241 Tryd.Builder_Extra_241 B b n w hB hbk hBw hn
def Tryd.lays165_ren : Go.Shelf.Ren := ⟨fun | 165 => 54 | 240 => 77 | 241 => 78 | 276 => 92 | 277 => 93 | n => n, fun | 70 => 92 | 3 => 3 | 0 => 0 | 4 => 4 | 9 => 9 | 20 => 20 | 72 => 94 | 37 => 45 | 164 => 134 | 5 => 5 | n => n, fun | n => n⟩
theorem Tryd.lays165 : Go.Proofs.Lays.n165 Tryd.prog Tryd.lays165_ren := {
  mixed := by kernel_rfl
  f165 := Tryd.func54.trans (congrArg some (by kernel_rfl))
  f240 := Tryd.func77.trans (congrArg some (by kernel_rfl))
  f241 := Tryd.func78.trans (congrArg some (by kernel_rfl))
  f276 := Tryd.func92.trans (congrArg some (by kernel_rfl))
  f277 := Tryd.func93.trans (congrArg some (by kernel_rfl))
  t0 := Tryd.underlying0
  a0 := Tryd.isAgg0
  z0 := Tryd.sizeOf0
  v0 := Tryd.zeroValue0
  t3 := Tryd.underlying3
  a3 := Tryd.isAgg3
  z3 := Tryd.sizeOf3
  v3 := Tryd.zeroValue3
  t4 := Tryd.underlying4
  a4 := Tryd.isAgg4
  z4 := Tryd.sizeOf4
  v4 := Tryd.zeroValue4
  t9 := Tryd.underlying9
  a9 := Tryd.isAgg9
  z9 := Tryd.sizeOf9
  v9 := Tryd.zeroValue9
  t20 := Tryd.underlying20
  a20 := Tryd.isAgg20
  z20 := Tryd.sizeOf20
  v20 := Tryd.zeroValue20
  t37 := Tryd.underlying45
  a37 := Tryd.isAgg45
  z37 := Tryd.sizeOf45
  v37 := Tryd.zeroValue45
  t70 := Tryd.underlying92
  a70 := Tryd.isAgg92
  z70 := Tryd.sizeOf92
  v70 := Tryd.zeroValue92
  t72 := Tryd.underlying94
  a72 := Tryd.isAgg94
  z72 := Tryd.sizeOf94
  v72 := Tryd.zeroValue94
  t164 := Tryd.underlying134
  a164 := Tryd.isAgg134
  z164 := Tryd.sizeOf134
  v164 := Tryd.zeroValue134 }
theorem Tryd.Builder_Extra_165 : Builder.Extra Tryd.prog Tryd.lays165_ren := {
  sizeBuilder := by kernel_rfl
  liesBuilder := by kernel_rfl
  t5 := Tryd.underlying5
  a5 := Tryd.isAgg5
  z5 := Tryd.sizeOf5
  v5 := Tryd.zeroValue5
  infoByte := by kernel_rfl
  cellsByte := by kernel_rfl
  sizeByte := by kernel_rfl
  neB5 := by decide }
open Go.RowKit in
theorem Tryd.Builder_Grow_fresh (B b n : Nat) (w : World) (hB : B ≤ b) (hbk : w.heap[b]? = some (.cells #[.pointer none, .slice none 0 0] 94 (0, 0))) (hBw : B ≤ w.heap.size) (hn : n ≤ 281474976710656) :
    Calls Tryd.prog 54 #[.pointer (some ⟨b, 0, none⟩), .int .i64 n] w fun e w' => e = .returned (.tuple #[]) ∧ (Lib.BuilderAt 94 5 B b (.pointer (some ⟨b, 0, none⟩)) [] w' ∧ Below B w w') := Any.Builder_Grow_fresh Tryd.lays165 Tryd.Builder_Extra_165 B b n w hB hbk hBw hn
def Tryd.lays231_ren : Go.Shelf.Ren := ⟨fun | 231 => 85 | n => n, fun | 9 => 9 | 5 => 5 | 3 => 3 | 4 => 4 | n => n, fun | n => n⟩
theorem Tryd.lays231 : Go.Proofs.Lays.n231 Tryd.prog Tryd.lays231_ren := {
  mixed := by kernel_rfl
  f231 := Tryd.func85.trans (congrArg some (by kernel_rfl))
  t3 := Tryd.underlying3
  a3 := Tryd.isAgg3
  z3 := Tryd.sizeOf3
  v3 := Tryd.zeroValue3
  t4 := Tryd.underlying4
  a4 := Tryd.isAgg4
  z4 := Tryd.sizeOf4
  v4 := Tryd.zeroValue4
  t5 := Tryd.underlying5
  a5 := Tryd.isAgg5
  z5 := Tryd.sizeOf5
  v5 := Tryd.zeroValue5
  t9 := Tryd.underlying9
  a9 := Tryd.isAgg9
  z9 := Tryd.sizeOf9
  v9 := Tryd.zeroValue9 }
open Go.RowKit in
theorem Tryd.strings_trimLeftByte (s : ByteArray) (c : UInt8) (w : World) :
    Calls Tryd.prog 85 #[.string s, .int .u8 c.toNat] w fun e w' => e = .returned (.string ⟨(Lib.trimLeftB s.data.toList c).toArray⟩) ∧ w' = w := Any.strings_trimLeftByte Tryd.lays231 s c w
def Tryd.lays232_ren : Go.Shelf.Ren := ⟨fun | 232 => 86 | n => n, fun | 9 => 9 | 5 => 5 | 3 => 3 | 4 => 4 | n => n, fun | n => n⟩
theorem Tryd.lays232 : Go.Proofs.Lays.n232 Tryd.prog Tryd.lays232_ren := {
  mixed := by kernel_rfl
  f232 := Tryd.func86.trans (congrArg some (by kernel_rfl))
  t3 := Tryd.underlying3
  a3 := Tryd.isAgg3
  z3 := Tryd.sizeOf3
  v3 := Tryd.zeroValue3
  t4 := Tryd.underlying4
  a4 := Tryd.isAgg4
  z4 := Tryd.sizeOf4
  v4 := Tryd.zeroValue4
  t5 := Tryd.underlying5
  a5 := Tryd.isAgg5
  z5 := Tryd.sizeOf5
  v5 := Tryd.zeroValue5
  t9 := Tryd.underlying9
  a9 := Tryd.isAgg9
  z9 := Tryd.sizeOf9
  v9 := Tryd.zeroValue9 }
open Go.RowKit in
theorem Tryd.strings_trimRightByte (s : ByteArray) (c : UInt8) (w : World) (hs : s.size ≤ 9223372036854775807) :
    Calls Tryd.prog 86 #[.string s, .int .u8 c.toNat] w fun e w' => e = .returned (.string ⟨(Lib.trimRightB s.data.toList c).toArray⟩) ∧ w' = w := Any.strings_trimRightByte Tryd.lays232 s c w hs
def Tryd.lays160_ren : Go.Shelf.Ren := ⟨fun | 160 => 70 | 232 => 86 | 231 => 85 | 227 => 87 | 234 => 89 | 233 => 88 | 236 => 91 | 235 => 90 | 228 => 96 | 271 => 99 | 151 => 98 | 197 => 97 | 120 => 102 | 152 => 101 | 260 => 100 | 137 => 103 | 119 => 104 | 224 => 105 | 225 => 106 | 217 => 107 | 266 => 108 | n => n, fun | 9 => 9 | 4 => 4 | 3 => 3 | 5 => 5 | 117 => 130 | 116 => 129 | 0 => 0 | 124 => 133 | 21 => 21 | 105 => 140 | 46 => 88 | 119 => 144 | 139 => 147 | 138 => 146 | n => n, fun | 3 => 1 | 4 => 2 | n => n⟩
theorem Tryd.lays160 : Go.Proofs.Lays.n160 Tryd.prog Tryd.lays160_ren := {
  mixed := by kernel_rfl
  f119 := Tryd.func104.trans (congrArg some (by kernel_rfl))
  f120 := Tryd.func102.trans (congrArg some (by kernel_rfl))
  f137 := Tryd.func103.trans (congrArg some (by kernel_rfl))
  f151 := Tryd.func98.trans (congrArg some (by kernel_rfl))
  f152 := Tryd.func101.trans (congrArg some (by kernel_rfl))
  f160 := Tryd.func70.trans (congrArg some (by kernel_rfl))
  f197 := Tryd.func97.trans (congrArg some (by kernel_rfl))
  f217 := Tryd.func107.trans (congrArg some (by kernel_rfl))
  f224 := Tryd.func105.trans (congrArg some (by kernel_rfl))
  f225 := Tryd.func106.trans (congrArg some (by kernel_rfl))
  f227 := Tryd.func87.trans (congrArg some (by kernel_rfl))
  f228 := Tryd.func96.trans (congrArg some (by kernel_rfl))
  f231 := Tryd.func85.trans (congrArg some (by kernel_rfl))
  f232 := Tryd.func86.trans (congrArg some (by kernel_rfl))
  f233 := Tryd.func88.trans (congrArg some (by kernel_rfl))
  f234 := Tryd.func89.trans (congrArg some (by kernel_rfl))
  f235 := Tryd.func90.trans (congrArg some (by kernel_rfl))
  f236 := Tryd.func91.trans (congrArg some (by kernel_rfl))
  f260 := Tryd.func100.trans (congrArg some (by kernel_rfl))
  f266 := Tryd.func108.trans (congrArg some (by kernel_rfl))
  f271 := Tryd.func99.trans (congrArg some (by kernel_rfl))
  t0 := Tryd.underlying0
  a0 := Tryd.isAgg0
  z0 := Tryd.sizeOf0
  v0 := Tryd.zeroValue0
  t3 := Tryd.underlying3
  a3 := Tryd.isAgg3
  z3 := Tryd.sizeOf3
  v3 := Tryd.zeroValue3
  t4 := Tryd.underlying4
  a4 := Tryd.isAgg4
  z4 := Tryd.sizeOf4
  v4 := Tryd.zeroValue4
  t5 := Tryd.underlying5
  a5 := Tryd.isAgg5
  z5 := Tryd.sizeOf5
  v5 := Tryd.zeroValue5
  t9 := Tryd.underlying9
  a9 := Tryd.isAgg9
  z9 := Tryd.sizeOf9
  v9 := Tryd.zeroValue9
  t21 := Tryd.underlying21
  a21 := Tryd.isAgg21
  z21 := Tryd.sizeOf21
  v21 := Tryd.zeroValue21
  t46 := Tryd.underlying88
  a46 := Tryd.isAgg88
  z46 := Tryd.sizeOf88
  v46 := Tryd.zeroValue88
  t105 := Tryd.underlying140
  a105 := Tryd.isAgg140
  z105 := Tryd.sizeOf140
  v105 := Tryd.zeroValue140
  t116 := Tryd.underlying129
  a116 := Tryd.isAgg129
  z116 := Tryd.sizeOf129
  t117 := Tryd.underlying130
  a117 := Tryd.isAgg130
  z117 := Tryd.sizeOf130
  v117 := Tryd.zeroValue130
  t119 := Tryd.underlying144
  a119 := Tryd.isAgg144
  z119 := Tryd.sizeOf144
  t124 := Tryd.underlying133
  a124 := Tryd.isAgg133
  z124 := Tryd.sizeOf133
  v124 := Tryd.zeroValue133
  t138 := Tryd.underlying146
  a138 := Tryd.isAgg146
  z138 := Tryd.sizeOf146
  v138 := Tryd.zeroValue146
  t139 := Tryd.underlying147
  a139 := Tryd.isAgg147
  z139 := Tryd.sizeOf147
  v139 := Tryd.zeroValue147
  g3 := by kernel_rfl
  g4 := by kernel_rfl }
open Go.RowKit in
theorem Tryd.strings_Trim_one (s : ByteArray) (c : UInt8) (hc : c.toNat < 128) (w : World) (hs : s.size ≤ 9223372036854775807) :
    Calls Tryd.prog 70 #[.string s, .string ⟨#[c]⟩] w fun e w' => e = .returned (.string ⟨(Lib.trimB s.data.toList c).toArray⟩) ∧ (w' = w ∨ w' = w.drew) := Any.strings_Trim_one Tryd.lays160 s c hc w hs
def Tryd.lays119_ren : Go.Shelf.Ren := ⟨fun | 119 => 104 | n => n, fun | 21 => 21 | 4 => 4 | n => n, fun | n => n⟩
theorem Tryd.lays119 : Go.Proofs.Lays.n119 Tryd.prog Tryd.lays119_ren := {
  mixed := by kernel_rfl
  f119 := Tryd.func104.trans (congrArg some (by kernel_rfl))
  t4 := Tryd.underlying4
  a4 := Tryd.isAgg4
  z4 := Tryd.sizeOf4
  v4 := Tryd.zeroValue4
  t21 := Tryd.underlying21
  a21 := Tryd.isAgg21
  z21 := Tryd.sizeOf21
  v21 := Tryd.zeroValue21 }
theorem Tryd.utf8_ValidRune (r : Int) (w : World) :
    Calls Tryd.prog 104 #[.int .i32 r] w fun e w' => e = .returned (.bool (Lib.validRune r)) ∧ w' = w := Any.utf8_ValidRune Tryd.lays119 r w
def Tryd.lays120_ren : Go.Shelf.Ren := ⟨fun | 120 => 102 | n => n, fun | 5 => 5 | 4 => 4 | n => n, fun | n => n⟩
theorem Tryd.lays120 : Go.Proofs.Lays.n120 Tryd.prog Tryd.lays120_ren := {
  mixed := by kernel_rfl
  f120 := Tryd.func102.trans (congrArg some (by kernel_rfl))
  t4 := Tryd.underlying4
  a4 := Tryd.isAgg4
  z4 := Tryd.sizeOf4
  v4 := Tryd.zeroValue4
  t5 := Tryd.underlying5
  a5 := Tryd.isAgg5
  z5 := Tryd.sizeOf5
  v5 := Tryd.zeroValue5 }
theorem Tryd.utf8_RuneStart (b : Int) (w : World) (h0 : 0 ≤ b) (h1 : b < 256) :
    Calls Tryd.prog 102 #[.int .u8 b] w fun e w' => e = .returned (.bool (Lib.runeStart b)) ∧ w' = w := Any.utf8_RuneStart Tryd.lays120 b w h0 h1
def Tryd.lays137_ren : Go.Shelf.Ren := ⟨fun | 137 => 103 | 217 => 107 | 266 => 108 | n => n, fun | 9 => 9 | 5 => 5 | 3 => 3 | n => n, fun | n => n⟩
theorem Tryd.lays137 : Go.Proofs.Lays.n137 Tryd.prog Tryd.lays137_ren := {
  mixed := by kernel_rfl
  f137 := Tryd.func103.trans (congrArg some (by kernel_rfl))
  f217 := Tryd.func107.trans (congrArg some (by kernel_rfl))
  f266 := Tryd.func108.trans (congrArg some (by kernel_rfl))
  t3 := Tryd.underlying3
  a3 := Tryd.isAgg3
  z3 := Tryd.sizeOf3
  v3 := Tryd.zeroValue3
  t5 := Tryd.underlying5
  a5 := Tryd.isAgg5
  z5 := Tryd.sizeOf5
  v5 := Tryd.zeroValue5
  t9 := Tryd.underlying9
  a9 := Tryd.isAgg9
  z9 := Tryd.sizeOf9
  v9 := Tryd.zeroValue9 }
open Go.RowKit in
theorem Tryd.strings_IndexByte (s : ByteArray) (c : Int) (w : World) :
    Calls Tryd.prog 103 #[.string s, .int .u8 c] w fun e w' => e = .returned (.int .i64 (Lib.indexByte s.data.toList c.toNat.toUInt8)) ∧ w' = w := Any.strings_IndexByte Tryd.lays137 s c w
open Go.RowKit in
theorem Tryd.Builder_Len_f (B b : Nat) (bs : List Value) (w : World) (h : Lib.IsBuilderF 94 5 B b bs w) :
    Calls Tryd.prog 56 #[.pointer (some ⟨b, 0, none⟩)] w fun e w' => e = .returned (.int .i64 bs.length) ∧ w' = w := Any.Builder_Len_f Tryd.lays170 B b bs w h
open Go.RowKit in
theorem Tryd.Builder_String_f (B b : Nat) (l : List UInt8) (w : World) (h : Lib.IsBuilderF 94 5 B b (Lib.byteCells l) w) (h0 : l ≠ []) :
    Calls Tryd.prog 57 #[.pointer (some ⟨b, 0, none⟩)] w fun e w' => e = .returned (.string ⟨l.toArray⟩) ∧ (Lib.IsBuilderF 94 5 B b (Lib.byteCells l) w' ∧ Below B w w') := Any.Builder_String_f Tryd.lays169 Tryd.Builder_Extra_169 B b l w h h0
open Go.RowKit in
theorem Tryd.Builder_String_empty_f (B b : Nat) (w : World) (h : Lib.IsBuilderF 94 5 B b [] w) (hBw : B ≤ w.heap.size) :
    Calls Tryd.prog 57 #[.pointer (some ⟨b, 0, none⟩)] w fun e w' => e = .returned (.string ⟨#[]⟩) ∧ (Lib.IsBuilderF 94 5 B b [] w' ∧ Below B w w') := Any.Builder_String_empty_f Tryd.lays169 Tryd.Builder_Extra_169 B b w h hBw
open Go.RowKit in
theorem Tryd.Builder_String_any_f (B b : Nat) (l : List UInt8) (w : World) (h : Lib.IsBuilderF 94 5 B b (Lib.byteCells l) w) (hBw : B ≤ w.heap.size) :
    Calls Tryd.prog 57 #[.pointer (some ⟨b, 0, none⟩)] w fun e w' => e = .returned (.string ⟨l.toArray⟩) ∧ (Lib.IsBuilderF 94 5 B b (Lib.byteCells l) w' ∧ Below B w w') := Any.Builder_String_any_f Tryd.lays169 Tryd.Builder_Extra_169 B b l w h hBw
def Tryd.lays217_ren : Go.Shelf.Ren := ⟨fun | 217 => 107 | 266 => 108 | n => n, fun | 9 => 9 | 5 => 5 | 3 => 3 | n => n, fun | n => n⟩
theorem Tryd.lays217 : Go.Proofs.Lays.n217 Tryd.prog Tryd.lays217_ren := {
  mixed := by kernel_rfl
  f217 := Tryd.func107.trans (congrArg some (by kernel_rfl))
  f266 := Tryd.func108.trans (congrArg some (by kernel_rfl))
  t3 := Tryd.underlying3
  a3 := Tryd.isAgg3
  z3 := Tryd.sizeOf3
  v3 := Tryd.zeroValue3
  t5 := Tryd.underlying5
  a5 := Tryd.isAgg5
  z5 := Tryd.sizeOf5
  v5 := Tryd.zeroValue5
  t9 := Tryd.underlying9
  a9 := Tryd.isAgg9
  z9 := Tryd.sizeOf9
  v9 := Tryd.zeroValue9 }
open Go.RowKit Go.Lib in
theorem Tryd.stringslite_IndexByte (s : ByteArray) (c : Int) (w : World) :
    Calls Tryd.prog 107 #[.string s, .int .u8 c] w fun e w' => e = .returned (.int .i64 (Lib.indexByte s.data.toList c.toNat.toUInt8)) ∧ w' = w := Any.stringslite_IndexByte Tryd.lays217 s c w
def Tryd.lays224_ren : Go.Shelf.Ren := ⟨fun | 224 => 105 | n => n, fun | 3 => 3 | n => n, fun | n => n⟩
theorem Tryd.lays224 : Go.Proofs.Lays.n224 Tryd.prog Tryd.lays224_ren := {
  mixed := by kernel_rfl
  f224 := Tryd.func105.trans (congrArg some (by kernel_rfl))
  t3 := Tryd.underlying3
  a3 := Tryd.isAgg3
  z3 := Tryd.sizeOf3
  v3 := Tryd.zeroValue3 }
open Go.RowKit Go.Lib in
theorem Tryd.bytealg_Cutover (n : Int) (h0 : 0 ≤ n) (h1 : n < 4611686018427387904) (w : World) :
    Calls Tryd.prog 105 #[.int .i64 n] w fun e w' => e = .returned (.int .i64 ((n + 16) / 8)) ∧ w' = w := Any.bytealg_Cutover Tryd.lays224 n h0 h1 w
def Tryd.lays206_ren : Go.Shelf.Ren := ⟨fun | 206 => 76 | n => n, fun | 9 => 9 | 4 => 4 | 3 => 3 | n => n, fun | n => n⟩
theorem Tryd.lays206 : Go.Proofs.Lays.n206 Tryd.prog Tryd.lays206_ren := {
  mixed := by kernel_rfl
  f206 := Tryd.func76.trans (congrArg some (by kernel_rfl))
  t3 := Tryd.underlying3
  a3 := Tryd.isAgg3
  z3 := Tryd.sizeOf3
  v3 := Tryd.zeroValue3
  t4 := Tryd.underlying4
  a4 := Tryd.isAgg4
  z4 := Tryd.sizeOf4
  v4 := Tryd.zeroValue4
  t9 := Tryd.underlying9
  a9 := Tryd.isAgg9
  z9 := Tryd.sizeOf9
  v9 := Tryd.zeroValue9 }
open Go.RowKit Go.Lib in
theorem Tryd.stringslite_HasPrefix (s p : ByteArray) (w : World) :
    Calls Tryd.prog 76 #[.string s, .string p] w fun e w' => e = .returned (.bool (Lib.hasPrefix s.data.toList p.data.toList)) ∧ w' = w := Any.stringslite_HasPrefix Tryd.lays206 s p w
def Tryd.lays99_ren : Go.Shelf.Ren := ⟨fun | 99 => 53 | 206 => 76 | n => n, fun | 9 => 9 | 4 => 4 | 3 => 3 | n => n, fun | n => n⟩
theorem Tryd.lays99 : Go.Proofs.Lays.n99 Tryd.prog Tryd.lays99_ren := {
  mixed := by kernel_rfl
  f99 := Tryd.func53.trans (congrArg some (by kernel_rfl))
  f206 := Tryd.func76.trans (congrArg some (by kernel_rfl))
  t3 := Tryd.underlying3
  a3 := Tryd.isAgg3
  z3 := Tryd.sizeOf3
  v3 := Tryd.zeroValue3
  t4 := Tryd.underlying4
  a4 := Tryd.isAgg4
  z4 := Tryd.sizeOf4
  v4 := Tryd.zeroValue4
  t9 := Tryd.underlying9
  a9 := Tryd.isAgg9
  z9 := Tryd.sizeOf9
  v9 := Tryd.zeroValue9 }
open Go.RowKit Go.Lib in
theorem Tryd.strings_HasPrefix (s p : ByteArray) (w : World) :
    Calls Tryd.prog 53 #[.string s, .string p] w fun e w' => e = .returned (.bool (Lib.hasPrefix s.data.toList p.data.toList)) ∧ w' = w := Any.strings_HasPrefix Tryd.lays99 s p w
def Tryd.lays197_ren : Go.Shelf.Ren := ⟨fun | 197 => 97 | 260 => 100 | n => n, fun | 9 => 9 | 21 => 21 | 3 => 3 | 4 => 4 | 5 => 5 | 105 => 140 | 119 => 144 | 0 => 0 | 46 => 88 | 139 => 147 | 138 => 146 | n => n, fun | 3 => 1 | 4 => 2 | n => n⟩
theorem Tryd.lays197 : Go.Proofs.Lays.n197 Tryd.prog Tryd.lays197_ren := {
  mixed := by kernel_rfl
  f197 := Tryd.func97.trans (congrArg some (by kernel_rfl))
  f260 := Tryd.func100.trans (congrArg some (by kernel_rfl))
  t0 := Tryd.underlying0
  a0 := Tryd.isAgg0
  z0 := Tryd.sizeOf0
  v0 := Tryd.zeroValue0
  t3 := Tryd.underlying3
  a3 := Tryd.isAgg3
  z3 := Tryd.sizeOf3
  v3 := Tryd.zeroValue3
  t4 := Tryd.underlying4
  a4 := Tryd.isAgg4
  z4 := Tryd.sizeOf4
  v4 := Tryd.zeroValue4
  t5 := Tryd.underlying5
  a5 := Tryd.isAgg5
  z5 := Tryd.sizeOf5
  v5 := Tryd.zeroValue5
  t9 := Tryd.underlying9
  a9 := Tryd.isAgg9
  z9 := Tryd.sizeOf9
  v9 := Tryd.zeroValue9
  t21 := Tryd.underlying21
  a21 := Tryd.isAgg21
  z21 := Tryd.sizeOf21
  v21 := Tryd.zeroValue21
  t46 := Tryd.underlying88
  a46 := Tryd.isAgg88
  z46 := Tryd.sizeOf88
  v46 := Tryd.zeroValue88
  t105 := Tryd.underlying140
  a105 := Tryd.isAgg140
  z105 := Tryd.sizeOf140
  v105 := Tryd.zeroValue140
  t119 := Tryd.underlying144
  a119 := Tryd.isAgg144
  z119 := Tryd.sizeOf144
  t138 := Tryd.underlying146
  a138 := Tryd.isAgg146
  z138 := Tryd.sizeOf146
  v138 := Tryd.zeroValue146
  t139 := Tryd.underlying147
  a139 := Tryd.isAgg147
  z139 := Tryd.sizeOf147
  v139 := Tryd.zeroValue147
  g3 := by kernel_rfl
  g4 := by kernel_rfl }
open Go.RowKit Go.Lib in
theorem Tryd.utf8_DecodeRuneInString_ascii (s : ByteArray) (x : UInt8) (w : World) (h0 : s.data.toList[0]? = some x) (hx : x.toNat < 128) :
    Calls Tryd.prog 97 #[.string s] w fun e w' => e = .returned (.tuple #[.int .i32 x.toNat, .int .i64 1]) ∧ w' = w := Any.utf8_DecodeRuneInString_ascii Tryd.lays197 s x w h0 hx
def Tryd.lays152_ren : Go.Shelf.Ren := ⟨fun | 152 => 101 | 137 => 103 | 119 => 104 | 224 => 105 | 225 => 106 | 217 => 107 | 266 => 108 | n => n, fun | 9 => 9 | 21 => 21 | 3 => 3 | 4 => 4 | 5 => 5 | 0 => 0 | 46 => 88 | n => n, fun | n => n⟩
theorem Tryd.lays152 : Go.Proofs.Lays.n152 Tryd.prog Tryd.lays152_ren := {
  mixed := by kernel_rfl
  f119 := Tryd.func104.trans (congrArg some (by kernel_rfl))
  f137 := Tryd.func103.trans (congrArg some (by kernel_rfl))
  f152 := Tryd.func101.trans (congrArg some (by kernel_rfl))
  f217 := Tryd.func107.trans (congrArg some (by kernel_rfl))
  f224 := Tryd.func105.trans (congrArg some (by kernel_rfl))
  f225 := Tryd.func106.trans (congrArg some (by kernel_rfl))
  f266 := Tryd.func108.trans (congrArg some (by kernel_rfl))
  t0 := Tryd.underlying0
  a0 := Tryd.isAgg0
  z0 := Tryd.sizeOf0
  v0 := Tryd.zeroValue0
  t3 := Tryd.underlying3
  a3 := Tryd.isAgg3
  z3 := Tryd.sizeOf3
  v3 := Tryd.zeroValue3
  t4 := Tryd.underlying4
  a4 := Tryd.isAgg4
  z4 := Tryd.sizeOf4
  v4 := Tryd.zeroValue4
  t5 := Tryd.underlying5
  a5 := Tryd.isAgg5
  z5 := Tryd.sizeOf5
  v5 := Tryd.zeroValue5
  t9 := Tryd.underlying9
  a9 := Tryd.isAgg9
  z9 := Tryd.sizeOf9
  v9 := Tryd.zeroValue9
  t21 := Tryd.underlying21
  a21 := Tryd.isAgg21
  z21 := Tryd.sizeOf21
  v21 := Tryd.zeroValue21
  t46 := Tryd.underlying88
  a46 := Tryd.isAgg88
  z46 := Tryd.sizeOf88
  v46 := Tryd.zeroValue88 }
open Go.RowKit Go.Lib in
theorem Tryd.strings_IndexRune_ascii (s : ByteArray) (r : Int) (w : World) (h0 : 0 ≤ r) (h1 : r < 128) :
    Calls Tryd.prog 101 #[.string s, .int .i32 r] w fun e w' => e = .returned (.int .i64 (Lib.indexByte s.data.toList r.toNat.toUInt8)) ∧ w' = w := Any.strings_IndexRune_ascii Tryd.lays152 s r w h0 h1
def Tryd.lays151_ren : Go.Shelf.Ren := ⟨fun | 151 => 98 | 152 => 101 | 137 => 103 | 119 => 104 | 224 => 105 | 225 => 106 | 217 => 107 | 266 => 108 | n => n, fun | 9 => 9 | 21 => 21 | 4 => 4 | 3 => 3 | 5 => 5 | 0 => 0 | 46 => 88 | n => n, fun | n => n⟩
theorem Tryd.lays151 : Go.Proofs.Lays.n151 Tryd.prog Tryd.lays151_ren := {
  mixed := by kernel_rfl
  f119 := Tryd.func104.trans (congrArg some (by kernel_rfl))
  f137 := Tryd.func103.trans (congrArg some (by kernel_rfl))
  f151 := Tryd.func98.trans (congrArg some (by kernel_rfl))
  f152 := Tryd.func101.trans (congrArg some (by kernel_rfl))
  f217 := Tryd.func107.trans (congrArg some (by kernel_rfl))
  f224 := Tryd.func105.trans (congrArg some (by kernel_rfl))
  f225 := Tryd.func106.trans (congrArg some (by kernel_rfl))
  f266 := Tryd.func108.trans (congrArg some (by kernel_rfl))
  t0 := Tryd.underlying0
  a0 := Tryd.isAgg0
  z0 := Tryd.sizeOf0
  v0 := Tryd.zeroValue0
  t3 := Tryd.underlying3
  a3 := Tryd.isAgg3
  z3 := Tryd.sizeOf3
  v3 := Tryd.zeroValue3
  t4 := Tryd.underlying4
  a4 := Tryd.isAgg4
  z4 := Tryd.sizeOf4
  v4 := Tryd.zeroValue4
  t5 := Tryd.underlying5
  a5 := Tryd.isAgg5
  z5 := Tryd.sizeOf5
  v5 := Tryd.zeroValue5
  t9 := Tryd.underlying9
  a9 := Tryd.isAgg9
  z9 := Tryd.sizeOf9
  v9 := Tryd.zeroValue9
  t21 := Tryd.underlying21
  a21 := Tryd.isAgg21
  z21 := Tryd.sizeOf21
  v21 := Tryd.zeroValue21
  t46 := Tryd.underlying88
  a46 := Tryd.isAgg88
  z46 := Tryd.sizeOf88
  v46 := Tryd.zeroValue88 }
open Go.RowKit Go.Lib in
theorem Tryd.strings_ContainsRune_ascii (s : ByteArray) (r : Int) (w : World) (h0 : 0 ≤ r) (h1 : r < 128) :
    Calls Tryd.prog 98 #[.string s, .int .i32 r] w fun e w' => e = .returned (.bool (decide (0 ≤ Lib.indexByte s.data.toList r.toNat.toUInt8))) ∧ w' = w := Any.strings_ContainsRune_ascii Tryd.lays151 s r w h0 h1
def Tryd.lays227_ren : Go.Shelf.Ren := ⟨fun | 227 => 87 | n => n, fun | 9 => 9 | 116 => 129 | 4 => 4 | 0 => 0 | 3 => 3 | 5 => 5 | n => n, fun | n => n⟩
theorem Tryd.lays227 : Go.Proofs.Lays.n227 Tryd.prog Tryd.lays227_ren := {
  mixed := by kernel_rfl
  f227 := Tryd.func87.trans (congrArg some (by kernel_rfl))
  t0 := Tryd.underlying0
  a0 := Tryd.isAgg0
  z0 := Tryd.sizeOf0
  v0 := Tryd.zeroValue0
  t3 := Tryd.underlying3
  a3 := Tryd.isAgg3
  z3 := Tryd.sizeOf3
  v3 := Tryd.zeroValue3
  t4 := Tryd.underlying4
  a4 := Tryd.isAgg4
  z4 := Tryd.sizeOf4
  v4 := Tryd.zeroValue4
  t5 := Tryd.underlying5
  a5 := Tryd.isAgg5
  z5 := Tryd.sizeOf5
  v5 := Tryd.zeroValue5
  t9 := Tryd.underlying9
  a9 := Tryd.isAgg9
  z9 := Tryd.sizeOf9
  v9 := Tryd.zeroValue9
  t116 := Tryd.underlying129
  a116 := Tryd.isAgg129
  z116 := Tryd.sizeOf129 }
open Go.RowKit Go.Lib in
theorem Tryd.strings_makeASCIISet (hv116 : ∀ w, (zeroValue 129).run Tryd.prog w = .ok (.agg (Array.replicate 256 (.bool false))) w) (chars : ByteArray) (w : World) (hs : chars.size < 4294967281) (hascii : ∀ (j : Nat) b, chars.data.toList[j]? = some b → b.toNat < 128) :
    Calls Tryd.prog 87 #[.string chars] w fun e w' => e = .returned (.tuple #[.agg (Lib.setCells chars.data.toList), .bool true]) ∧ w' = w.alloc (.cells (Lib.setCells chars.data.toList) 129) := Any.strings_makeASCIISet Tryd.lays227 hv116 (by kernel_rfl) chars w hs hascii
def Tryd.lays228_ren : Go.Shelf.Ren := ⟨fun | 228 => 96 | n => n, fun | 124 => 133 | 5 => 5 | 4 => 4 | 0 => 0 | 116 => 129 | n => n, fun | n => n⟩
theorem Tryd.lays228 : Go.Proofs.Lays.n228 Tryd.prog Tryd.lays228_ren := {
  mixed := by kernel_rfl
  f228 := Tryd.func96.trans (congrArg some (by kernel_rfl))
  t0 := Tryd.underlying0
  a0 := Tryd.isAgg0
  z0 := Tryd.sizeOf0
  v0 := Tryd.zeroValue0
  t4 := Tryd.underlying4
  a4 := Tryd.isAgg4
  z4 := Tryd.sizeOf4
  v4 := Tryd.zeroValue4
  t5 := Tryd.underlying5
  a5 := Tryd.isAgg5
  z5 := Tryd.sizeOf5
  v5 := Tryd.zeroValue5
  t116 := Tryd.underlying129
  a116 := Tryd.isAgg129
  z116 := Tryd.sizeOf129
  t124 := Tryd.underlying133
  a124 := Tryd.isAgg133
  z124 := Tryd.sizeOf133
  v124 := Tryd.zeroValue133 }
open Go.RowKit Go.Lib in
theorem Tryd.asciiSet_contains (b : Nat) (x : UInt8) (v : Bool) (w : World) (hc : w.cell? ⟨b, x.toNat, none⟩ = some (.bool v)) :
    Calls Tryd.prog 96 #[.pointer (some ⟨b, 0, none⟩), .int .u8 x.toNat] w fun e w' => e = .returned (.bool v) ∧ w' = w := Any.asciiSet_contains Tryd.lays228 b x v w hc
def Tryd.lays264_ren : Go.Shelf.Ren := ⟨fun | 264 => 75 | n => n, fun | 53 => 114 | 46 => 88 | n => n, fun | n => n⟩
theorem Tryd.lays264 : Go.Proofs.Lays.n264 Tryd.prog Tryd.lays264_ren := {
  mixed := by kernel_rfl
  f264 := Tryd.func75.trans (congrArg some (by kernel_rfl))
  t46 := Tryd.underlying88
  a46 := Tryd.isAgg88
  z46 := Tryd.sizeOf88
  v46 := Tryd.zeroValue88
  t53 := Tryd.underlying114
  a53 := Tryd.isAgg114
  z53 := Tryd.sizeOf114
  v53 := Tryd.zeroValue114 }
open Go.RowKit Go.Lib in
theorem Tryd.bits_Mul64 (x y : Nat) (hx : x < 18446744073709551616) (hy : y < 18446744073709551616) (w : World) :
    Calls Tryd.prog 75 #[.int .u64 x, .int .u64 y] w fun e w' => e = .returned (.tuple #[.int .u64 ((x * y / 18446744073709551616 : Nat) : Int), .int .u64 ((x * y % 18446744073709551616 : Nat) : Int)]) ∧ w' = w := Any.bits_Mul64 Tryd.lays264 x y hx hy w
def Tryd.lays212_ren : Go.Shelf.Ren := ⟨fun | 212 => 52 | 263 => 74 | 264 => 75 | n => n, fun | 46 => 88 | 51 => 34 | 146 => 112 | 53 => 114 | 148 => 115 | n => n, fun | n => n⟩
theorem Tryd.lays212 : Go.Proofs.Lays.n212 Tryd.prog Tryd.lays212_ren := {
  mixed := by kernel_rfl
  f212 := Tryd.func52.trans (congrArg some (by kernel_rfl))
  f263 := Tryd.func74.trans (congrArg some (by kernel_rfl))
  f264 := Tryd.func75.trans (congrArg some (by kernel_rfl))
  t46 := Tryd.underlying88
  a46 := Tryd.isAgg88
  z46 := Tryd.sizeOf88
  v46 := Tryd.zeroValue88
  t51 := Tryd.underlying34
  a51 := Tryd.isAgg34
  z51 := Tryd.sizeOf34
  v51 := Tryd.zeroValue34
  t53 := Tryd.underlying114
  a53 := Tryd.isAgg114
  z53 := Tryd.sizeOf114
  v53 := Tryd.zeroValue114
  t146 := Tryd.underlying112
  a146 := Tryd.isAgg112
  z146 := Tryd.sizeOf112
  v146 := Tryd.zeroValue112
  t148 := Tryd.underlying115
  a148 := Tryd.isAgg115
  z148 := Tryd.sizeOf115
  v148 := Tryd.zeroValue115 }
open Go.RowKit Go.Lib in
theorem Tryd.bits_Mul (x y : Nat) (hx : x < 18446744073709551616) (hy : y < 18446744073709551616) (w : World) :
    Calls Tryd.prog 52 #[.int .u64 x, .int .u64 y] w fun e w' => e = .returned (.tuple #[.int .u64 ((x * y / 18446744073709551616 : Nat) : Int), .int .u64 ((x * y % 18446744073709551616 : Nat) : Int)]) ∧ w' = w := Any.bits_Mul Tryd.lays212 x y hx hy w
def Tryd.lays105_ren : Go.Shelf.Ren := ⟨fun | 105 => 32 | 212 => 52 | 99 => 53 | 165 => 54 | 166 => 55 | 170 => 56 | 169 => 57 | 263 => 74 | 264 => 75 | 206 => 76 | 240 => 77 | 241 => 78 | 276 => 92 | 277 => 93 | n => n, fun | 9 => 9 | 3 => 3 | 4 => 4 | 20 => 20 | 0 => 0 | 46 => 88 | 109 => 89 | 5 => 5 | 72 => 94 | 76 => 98 | 51 => 34 | 146 => 112 | 53 => 114 | 148 => 115 | 70 => 92 | 37 => 45 | 75 => 97 | 127 => 117 | 164 => 134 | 80 => 100 | n => n, fun | n => n⟩
theorem Tryd.lays105 : Go.Proofs.Lays.n105 Tryd.prog Tryd.lays105_ren := {
  mixed := by kernel_rfl
  f99 := Tryd.func53.trans (congrArg some (by kernel_rfl))
  f105 := Tryd.func32.trans (congrArg some (by kernel_rfl))
  f165 := Tryd.func54.trans (congrArg some (by kernel_rfl))
  f166 := Tryd.func55.trans (congrArg some (by kernel_rfl))
  f169 := Tryd.func57.trans (congrArg some (by kernel_rfl))
  f170 := Tryd.func56.trans (congrArg some (by kernel_rfl))
  f206 := Tryd.func76.trans (congrArg some (by kernel_rfl))
  f212 := Tryd.func52.trans (congrArg some (by kernel_rfl))
  f240 := Tryd.func77.trans (congrArg some (by kernel_rfl))
  f241 := Tryd.func78.trans (congrArg some (by kernel_rfl))
  f263 := Tryd.func74.trans (congrArg some (by kernel_rfl))
  f264 := Tryd.func75.trans (congrArg some (by kernel_rfl))
  f276 := Tryd.func92.trans (congrArg some (by kernel_rfl))
  f277 := Tryd.func93.trans (congrArg some (by kernel_rfl))
  t0 := Tryd.underlying0
  a0 := Tryd.isAgg0
  z0 := Tryd.sizeOf0
  v0 := Tryd.zeroValue0
  t3 := Tryd.underlying3
  a3 := Tryd.isAgg3
  z3 := Tryd.sizeOf3
  v3 := Tryd.zeroValue3
  t4 := Tryd.underlying4
  a4 := Tryd.isAgg4
  z4 := Tryd.sizeOf4
  v4 := Tryd.zeroValue4
  t5 := Tryd.underlying5
  a5 := Tryd.isAgg5
  z5 := Tryd.sizeOf5
  v5 := Tryd.zeroValue5
  t9 := Tryd.underlying9
  a9 := Tryd.isAgg9
  z9 := Tryd.sizeOf9
  v9 := Tryd.zeroValue9
  t20 := Tryd.underlying20
  a20 := Tryd.isAgg20
  z20 := Tryd.sizeOf20
  v20 := Tryd.zeroValue20
  t37 := Tryd.underlying45
  a37 := Tryd.isAgg45
  z37 := Tryd.sizeOf45
  v37 := Tryd.zeroValue45
  t46 := Tryd.underlying88
  a46 := Tryd.isAgg88
  z46 := Tryd.sizeOf88
  v46 := Tryd.zeroValue88
  t51 := Tryd.underlying34
  a51 := Tryd.isAgg34
  z51 := Tryd.sizeOf34
  v51 := Tryd.zeroValue34
  t53 := Tryd.underlying114
  a53 := Tryd.isAgg114
  z53 := Tryd.sizeOf114
  v53 := Tryd.zeroValue114
  t70 := Tryd.underlying92
  a70 := Tryd.isAgg92
  z70 := Tryd.sizeOf92
  v70 := Tryd.zeroValue92
  t72 := Tryd.underlying94
  a72 := Tryd.isAgg94
  z72 := Tryd.sizeOf94
  v72 := Tryd.zeroValue94
  t75 := Tryd.underlying97
  a75 := Tryd.isAgg97
  z75 := Tryd.sizeOf97
  v75 := Tryd.zeroValue97
  t76 := Tryd.underlying98
  a76 := Tryd.isAgg98
  z76 := Tryd.sizeOf98
  v76 := Tryd.zeroValue98
  t109 := Tryd.underlying89
  a109 := Tryd.isAgg89
  z109 := Tryd.sizeOf89
  v109 := Tryd.zeroValue89
  t127 := Tryd.underlying117
  a127 := Tryd.isAgg117
  z127 := Tryd.sizeOf117
  v127 := Tryd.zeroValue117
  t146 := Tryd.underlying112
  a146 := Tryd.isAgg112
  z146 := Tryd.sizeOf112
  v146 := Tryd.zeroValue112
  t148 := Tryd.underlying115
  a148 := Tryd.isAgg115
  z148 := Tryd.sizeOf115
  v148 := Tryd.zeroValue115
  t164 := Tryd.underlying134
  a164 := Tryd.isAgg134
  z164 := Tryd.sizeOf134
  v164 := Tryd.zeroValue134 }
theorem Tryd.Builder_Extra_105 : Builder.Extra Tryd.prog Tryd.lays105_ren := {
  sizeBuilder := by kernel_rfl
  liesBuilder := by kernel_rfl
  t5 := Tryd.underlying5
  a5 := Tryd.isAgg5
  z5 := Tryd.sizeOf5
  v5 := Tryd.zeroValue5
  infoByte := by kernel_rfl
  cellsByte := by kernel_rfl
  sizeByte := by kernel_rfl
  neB5 := by decide }
open Go.RowKit Go.Lib in
theorem Tryd.strings_Repeat_main (s : ByteArray) (c : Nat) (w : World) (hc2 : 2 ≤ c) (hc : c ≤ 9223372036854775807) (hlen : s.size * c ≤ 140737488355328) (h0 : 0 < s.size) :
    Calls Tryd.prog 32 #[.string s, .int .i64 c] w fun e w' => e = .returned (.string ⟨(Lib.repeatL s.data.toList c).toArray⟩) ∧ Below w.heap.size w w' := Any.strings_Repeat_main Tryd.lays105 Tryd.Builder_Extra_105 s c w hc2 hc hlen h0
open Go.RowKit Go.Lib in
theorem Tryd.strings_Repeat_zero (s : ByteArray) (w : World) :
    Calls Tryd.prog 32 #[.string s, .int .i64 0] w fun e w' => e = .returned (.string ⟨#[]⟩) ∧ w' = w := Any.strings_Repeat_zero Tryd.lays105 s w
open Go.RowKit Go.Lib in
theorem Tryd.strings_Repeat_one (s : ByteArray) (w : World) :
    Calls Tryd.prog 32 #[.string s, .int .i64 1] w fun e w' => e = .returned (.string s) ∧ w' = w := Any.strings_Repeat_one Tryd.lays105 s w
open Go.RowKit Go.Lib in
theorem Tryd.strings_Repeat_empty (s : ByteArray) (c : Nat) (w : World) (hc2 : 2 ≤ c) (hc : c ≤ 9223372036854775807) (h0 : s.size = 0) :
    Calls Tryd.prog 32 #[.string s, .int .i64 c] w fun e w' => e = .returned (.string ⟨#[]⟩) ∧ w' = w := Any.strings_Repeat_empty Tryd.lays105 s c w hc2 hc h0
open Go.RowKit Go.Lib in
theorem Tryd.strings_Repeat_negative (s : ByteArray) (c : Int) (w : World) (hc : c < 0) :
    Calls Tryd.prog 32 #[.string s, .int .i64 c] w fun e w' => e = .panicked [{ v := repeatPanic Tryd.lays105_ren "strings: negative Repeat count", recovered := false }] ∧ w' = w := Any.strings_Repeat_negative Tryd.lays105 s c w hc
open Go.RowKit Go.Lib in
theorem Tryd.strings_Repeat_overflow (s : ByteArray) (c : Nat) (w : World) (hc : c ≤ 9223372036854775807) (hs : s.size ≤ 9223372036854775807) (hbig : 9223372036854775807 < s.size * c) :
    Calls Tryd.prog 32 #[.string s, .int .i64 c] w fun e w' => e = .panicked [{ v := repeatPanic Tryd.lays105_ren "strings: Repeat output length overflow", recovered := false }] ∧ w' = w := Any.strings_Repeat_overflow Tryd.lays105 s c w hc hs hbig
open Go.RowKit Go.Lib in
theorem Tryd.strings_Repeat (s : ByteArray) (c : Nat) (w : World) (hc : c ≤ 9223372036854775807) (hlen : s.size * c ≤ 140737488355328) :
    Calls Tryd.prog 32 #[.string s, .int .i64 c] w fun e w' => e = .returned (.string ⟨(Lib.repeatL s.data.toList c).toArray⟩) ∧ Below w.heap.size w w' := Any.strings_Repeat Tryd.lays105 Tryd.Builder_Extra_105 s c w hc hlen
def Tryd.lays260_ren : Go.Shelf.Ren := ⟨fun | 260 => 100 | n => n, fun | 9 => 9 | 21 => 21 | 3 => 3 | 4 => 4 | 5 => 5 | 119 => 144 | 0 => 0 | 46 => 88 | 139 => 147 | 138 => 146 | n => n, fun | 3 => 1 | 4 => 2 | n => n⟩
theorem Tryd.lays260 : Go.Proofs.Lays.n260 Tryd.prog Tryd.lays260_ren := {
  mixed := by kernel_rfl
  f260 := Tryd.func100.trans (congrArg some (by kernel_rfl))
  t0 := Tryd.underlying0
  a0 := Tryd.isAgg0
  z0 := Tryd.sizeOf0
  v0 := Tryd.zeroValue0
  t3 := Tryd.underlying3
  a3 := Tryd.isAgg3
  z3 := Tryd.sizeOf3
  v3 := Tryd.zeroValue3
  t4 := Tryd.underlying4
  a4 := Tryd.isAgg4
  z4 := Tryd.sizeOf4
  v4 := Tryd.zeroValue4
  t5 := Tryd.underlying5
  a5 := Tryd.isAgg5
  z5 := Tryd.sizeOf5
  v5 := Tryd.zeroValue5
  t9 := Tryd.underlying9
  a9 := Tryd.isAgg9
  z9 := Tryd.sizeOf9
  v9 := Tryd.zeroValue9
  t21 := Tryd.underlying21
  a21 := Tryd.isAgg21
  z21 := Tryd.sizeOf21
  v21 := Tryd.zeroValue21
  t46 := Tryd.underlying88
  a46 := Tryd.isAgg88
  z46 := Tryd.sizeOf88
  v46 := Tryd.zeroValue88
  t119 := Tryd.underlying144
  a119 := Tryd.isAgg144
  z119 := Tryd.sizeOf144
  t138 := Tryd.underlying146
  a138 := Tryd.isAgg146
  z138 := Tryd.sizeOf146
  v138 := Tryd.zeroValue146
  t139 := Tryd.underlying147
  a139 := Tryd.isAgg147
  z139 := Tryd.sizeOf147
  v139 := Tryd.zeroValue147
  g3 := by kernel_rfl
  g4 := by kernel_rfl }
open Go.RowKit Go.Lib in
theorem Tryd.utf8_decodeRuneInStringSlow (s : ByteArray) (w : World) (hT : Lib.Utf8Tabs 1 2 w) :
    Calls Tryd.prog 100 #[.string s] w fun e w' => e = .returned (.tuple #[.int .i32 (Lib.decodeGo s).1, .int .i64 (Lib.decodeGo s).2]) ∧ Below w.heap.size w w' := Any.utf8_decodeRuneInStringSlow Tryd.lays260 s w hT
open Go.RowKit Go.Lib in
theorem Tryd.utf8_DecodeRuneInString (s : ByteArray) (w : World) (hT : Lib.Utf8Tabs 1 2 w) :
    Calls Tryd.prog 97 #[.string s] w fun e w' => e = .returned (.tuple #[.int .i32 (Lib.decodeGo s).1, .int .i64 (Lib.decodeGo s).2]) ∧ Below w.heap.size w w' := Any.utf8_DecodeRuneInString Tryd.lays197 s w hT
def Tryd.lays271_ren : Go.Shelf.Ren := ⟨fun | 271 => 99 | 120 => 102 | 197 => 97 | 260 => 100 | n => n, fun | 9 => 9 | 21 => 21 | 3 => 3 | 4 => 4 | 5 => 5 | 105 => 140 | 119 => 144 | 0 => 0 | 46 => 88 | 139 => 147 | 138 => 146 | n => n, fun | 3 => 1 | 4 => 2 | n => n⟩
theorem Tryd.lays271 : Go.Proofs.Lays.n271 Tryd.prog Tryd.lays271_ren := {
  mixed := by kernel_rfl
  f120 := Tryd.func102.trans (congrArg some (by kernel_rfl))
  f197 := Tryd.func97.trans (congrArg some (by kernel_rfl))
  f260 := Tryd.func100.trans (congrArg some (by kernel_rfl))
  f271 := Tryd.func99.trans (congrArg some (by kernel_rfl))
  t0 := Tryd.underlying0
  a0 := Tryd.isAgg0
  z0 := Tryd.sizeOf0
  v0 := Tryd.zeroValue0
  t3 := Tryd.underlying3
  a3 := Tryd.isAgg3
  z3 := Tryd.sizeOf3
  v3 := Tryd.zeroValue3
  t4 := Tryd.underlying4
  a4 := Tryd.isAgg4
  z4 := Tryd.sizeOf4
  v4 := Tryd.zeroValue4
  t5 := Tryd.underlying5
  a5 := Tryd.isAgg5
  z5 := Tryd.sizeOf5
  v5 := Tryd.zeroValue5
  t9 := Tryd.underlying9
  a9 := Tryd.isAgg9
  z9 := Tryd.sizeOf9
  v9 := Tryd.zeroValue9
  t21 := Tryd.underlying21
  a21 := Tryd.isAgg21
  z21 := Tryd.sizeOf21
  v21 := Tryd.zeroValue21
  t46 := Tryd.underlying88
  a46 := Tryd.isAgg88
  z46 := Tryd.sizeOf88
  v46 := Tryd.zeroValue88
  t105 := Tryd.underlying140
  a105 := Tryd.isAgg140
  z105 := Tryd.sizeOf140
  v105 := Tryd.zeroValue140
  t119 := Tryd.underlying144
  a119 := Tryd.isAgg144
  z119 := Tryd.sizeOf144
  t138 := Tryd.underlying146
  a138 := Tryd.isAgg146
  z138 := Tryd.sizeOf146
  v138 := Tryd.zeroValue146
  t139 := Tryd.underlying147
  a139 := Tryd.isAgg147
  z139 := Tryd.sizeOf147
  v139 := Tryd.zeroValue147
  g3 := by kernel_rfl
  g4 := by kernel_rfl }
open Go.RowKit Go.Lib in
theorem Tryd.utf8_DecodeLastRuneInString (s : ByteArray) (w : World) (hs : s.size ≤ 9223372036854775807) (hT : Lib.Utf8Tabs 1 2 w) :
    Calls Tryd.prog 99 #[.string s] w fun e w' => e = .returned (.tuple #[.int .i32 (Lib.decodeLastL s.data.toList).1, .int .i64 (Lib.decodeLastL s.data.toList).2]) ∧ Below w.heap.size w w' := Any.utf8_DecodeLastRuneInString Tryd.lays271 s w hs hT
end Go.Proofs

namespace Go.Proofs.YtncnildpbccpaaaDoor
open Go.RowKit

/-- A list's bytes as a text. -/
def ba (l : List UInt8) : ByteArray := ⟨l.toArray⟩
theorem ba_list (l : List UInt8) : (ba l).data.toList = l := rfl
theorem ba_size (l : List UInt8) : (ba l).size = l.length := rfl
theorem ba_of (s : ByteArray) : s = ba s.data.toList := by cases s; rfl
theorem ba_take (l : List UInt8) (n : Nat) : (ba l).extract 0 n = ba (l.take n) := by
  unfold ba
  have h : ((⟨l.toArray⟩ : ByteArray).extract 0 n).data.toList = l.take n := by simp [ByteArray.data_extract, List.extract_eq_take_drop]
  rw [ba_of ((⟨l.toArray⟩ : ByteArray).extract 0 n), h]
  rfl
theorem ba_drop (l : List UInt8) (n : Nat) : (ba l).extract n (ba l).size = ba (l.drop n) := by
  unfold ba
  have h : ((⟨l.toArray⟩ : ByteArray).extract n (⟨l.toArray⟩ : ByteArray).size).data.toList = l.drop n := by
    rw [ByteArray.data_extract, Array.toList_extract, List.extract_eq_take_drop]
    show (l.drop n).take (l.length - n) = l.drop n
    rw [List.take_of_length_le (by simp)]
  rw [ba_of ((⟨l.toArray⟩ : ByteArray).extract n (⟨l.toArray⟩ : ByteArray).size), h]
  rfl

theorem takeOf_in (l : List UInt8) (n : Nat) (h : n ≤ l.length) : takeOf (some (ba l)) (n : Int) = (ba (l.take n), some (ba (l.drop n))) := by
  unfold takeOf
  simp only []
  rw [if_pos ⟨by omega, by rw [ba_size]; omega⟩, Int.toNat_natCast, ba_take, ba_drop]
theorem takeOf_out (l : List UInt8) (n : Nat) (h : l.length < n) : takeOf (some (ba l)) (n : Int) = (nobytes, none) := by
  unfold takeOf
  simp only []
  rw [if_neg (by rw [ba_size]; omega)]

theorem rbyte_cons (base r : Nat) (k : UInt8) (t : List UInt8) (w : World) (h : Rd base r (some (ba (k :: t))) w) (hs : t.length ≤ 90000) :
    Calls Tryd.prog 47 #[.pointer (some ⟨r, 0, none⟩)] w fun e w' => e = .returned (.int .i64 k.toNat) ∧ Rd base r (some (ba t)) w' ∧ w.grownBy w' (some r) := by
  have e := takeOf_in (k :: t) 1 (by simp)
  have e' : takeOf (some (ba (k :: t))) 1 = (ba [k], some (ba t)) := e
  refine (RByte_any base r _ w h (by show (k :: t).length ≤ 100000; simp; omega)).mono ?_
  rintro e w' ⟨he, hr, hg⟩
  rw [e'] at he hr
  exact ⟨by rw [he]; show Ending.returned (.int .i64 ((num [k] : Nat) : Int)) = _; simp [num], hr, hg⟩

theorem rbyte_nil (base r : Nat) (w : World) (h : Rd base r (some (ba [])) w) :
    Calls Tryd.prog 47 #[.pointer (some ⟨r, 0, none⟩)] w fun e w' => e = .returned (.int .i64 0) ∧ Rd base r none w' ∧ w.grownBy w' (some r) := by
  have e := takeOf_out [] 1 (by simp)
  have e' : takeOf (some (ba [])) 1 = (nobytes, none) := e
  refine (RByte_any base r _ w h (by show (0 : Nat) ≤ 100000; omega)).mono ?_
  rintro e w' ⟨he, hr, hg⟩
  rw [e'] at he hr
  exact ⟨he, hr, hg⟩

theorem rtake_in (base r : Nat) (l : List UInt8) (n : Nat) (w : World) (h : Rd base r (some (ba l)) w) (hs : l.length ≤ 90000) (hn : n ≤ l.length) :
    Calls Tryd.prog 73 #[.pointer (some ⟨r, 0, none⟩), .int .i64 n] w fun e w' => e = .returned (.string (ba (l.take n))) ∧ Rd base r (some (ba (l.drop n))) w' ∧ w.grownBy w' (some r) := by
  refine (take_any base r _ n w h (by show l.length ≤ 100000; omega)).mono ?_
  rintro e w' ⟨he, hr, hg⟩
  rw [takeOf_in l n hn] at he hr
  exact ⟨he, hr, hg⟩

theorem rrest (base r : Nat) (l : List UInt8) (w : World) (h : Rd base r (some (ba l)) w) (hs : l.length ≤ 90000) :
    Calls Tryd.prog 71 #[.pointer (some ⟨r, 0, none⟩)] w fun e w' => e = .returned (.string (ba l)) ∧ Rd base r (some (ba [])) w' ∧ w.grownBy w' (some r) := by
  refine (Rest_any base r _ w h (by show l.length ≤ 100000; omega)).mono ?_
  rintro e w' ⟨he, hr, hg⟩
  have e1 : takeOf (some (ba l)) ((((some (ba l)).getD nobytes).size : Nat) : Int) = (ba l, some (ba [])) := by
    show takeOf (some (ba l)) ((l.length : Nat) : Int) = _
    rw [takeOf_in l l.length (Nat.le_refl _), List.take_length, List.drop_length]
  rw [e1] at he hr
  exact ⟨he, hr, hg⟩

theorem Rd.draw {base r : Nat} {o : Option ByteArray} {w : World} (h : Rd base r o w) : Rd base r o w.drew := ⟨h.low, h.cells⟩

/-- A reader of options: what is left, and what was read. -/
structure Ps (base p r : Nat) (o : Option ByteArray) (l : List Opt) (w : World) : Prop where
  low : base ≤ p
  ne : p ≠ r
  cells : ∃ ao cap, w.heap[p]? = some (.cells #[.pointer (some ⟨r, 0, none⟩), .slice ao l.length cap] 54 (0, 0)) ∧ OptBuf base ao cap l w
  rd : Rd base r o w

theorem OptBuf.apart {base : Nat} {ao : Option Addr} {cap b : Nat} {l : List Opt} {w : World} {cs : Array Value} {t : TypeId} (h : OptBuf base ao cap l w) (hb : w.heap[b]? = some (.cells cs t (0, 0))) (ht : t ≠ 48) : Value.ownBlock (.slice ao l.length cap) ≠ some b := by
  intro e
  rcases h.2 with ⟨hv, _⟩ | ⟨g, cap', cur, hv, _, hg, _⟩
  · rw [hv] at e; cases e
  · rw [hv] at e
    cases e
    rw [hg] at hb
    simp at hb
    exact ht hb.2.symm

theorem Ps.read {base p r : Nat} {o o' : Option ByteArray} {l : List Opt} {w w' : World} (h : Ps base p r o l w) (hg : w.grownBy w' (some r)) (hr : Rd base r o' w') : Ps base p r o' l w' := by
  obtain ⟨low, ne, ⟨ao, cap, hc, hb⟩, rd⟩ := h
  refine ⟨low, ne, ⟨ao, cap, ?_, ?_⟩, hr⟩
  · rw [hg.block p (lt_of_block hc) (by intro e; cases e; exact ne rfl)]; exact hc
  · exact World.ownsRow.kept hb hg (.inr (hb.apart rd.cells (by decide)))

theorem Ps.at {base p r : Nat} {o : Option ByteArray} {l : List Opt} {w : World} (h : Ps base p r o l w) : w.cell? ⟨p, 0, none⟩ = some (.pointer (some ⟨r, 0, none⟩)) ∧ w.frozen? ⟨p, 1, none⟩ = false ∧ p < w.heap.size ∧ ∃ ao cap, w.cell? ⟨p, 1, none⟩ = some (.slice ao l.length cap) ∧ OptBuf base ao cap l w := by
  obtain ⟨low, ne, ⟨ao, cap, hc, hb⟩, rd⟩ := h
  exact ⟨by simp [World.cell?, hc], by simp [World.frozen?, hc], lt_of_block hc, ao, cap, by simp [World.cell?, hc], hb⟩

theorem Ps.below {base p r : Nat} {o : Option ByteArray} {l : List Opt} {w w' : World} (h : Ps base p r o l w) (hg : w.grownBy w' (some r)) : Below base w w' :=
  grown_below hg h.rd.low (by have := lt_of_block h.rd.cells; have := h.rd.low; omega)

theorem dropWhile_nil (p : UInt8 → Bool) (l : List UInt8) : l.dropWhile p = [] ↔ ∀ x ∈ l, p x = true := by
  induction l with
  | nil => simp
  | cons a r ih =>
    rw [List.dropWhile_cons]
    by_cases h : p a = true
    · rw [if_pos h, ih]; simp [h]
    · rw [if_neg h]; simp [h]

theorem dropWhile_all (p : UInt8 → Bool) (l : List UInt8) (h : ∀ x ∈ l.dropWhile p, p x = true) : ∀ x ∈ l, p x = true := by
  induction l with
  | nil => simp
  | cons a r ih =>
    rw [List.dropWhile_cons] at h
    by_cases ha : p a = true
    · rw [if_pos ha] at h
      intro x hx
      rcases List.mem_cons.1 hx with rfl | hx
      · exact ha
      · exact ih h x hx
    · rw [if_neg ha] at h
      exact h

theorem all_zero (l : List UInt8) : (Lib.trimB l 0).isEmpty = l.all (· == 0) := by
  rw [Bool.eq_iff_iff, List.isEmpty_iff, List.all_eq_true]
  unfold Lib.trimB Lib.trimLeftB Lib.trimRightB
  rw [dropWhile_nil]
  constructor
  · intro h x hx
    exact dropWhile_all _ l.reverse (fun y hy => h y (List.mem_reverse.2 hy)) x (List.mem_reverse.2 hx)
  · intro h x hx
    rw [(dropWhile_nil _ l.reverse).2 (fun y hy => h y (List.mem_reverse.1 hy))] at hx
    simp at hx

set_option maxHeartbeats 400000 in
theorem ending_any (base p r : Nat) (t : List UInt8) (l : List Opt) (w : World) (h : Ps base p r (some (ba t)) l w) (ht : t.length ≤ 100) :
    Calls Tryd.prog 48 #[.pointer (some ⟨p, 0, none⟩)] w fun e w' => e = .returned (.int .i64 (if t.all (· == 0) then 0 else 3)) ∧ Ps base p r (some (ba [])) l w' ∧ Below base w w' := by
  obtain ⟨c0, f1, hp, ao, cap, c1, hbuf⟩ := h.at
  have Hq := Lib.hid (all_zero t)
  have Hps := Lib.hid h
  obtain ⟨z, hz⟩ : ∃ z : Int, (if t.all (· == 0) then (0 : Int) else 3) = z := ⟨_, rfl⟩
  have Hz := Lib.hid hz
  rw [hz]
  clear hz
  clear hbuf
  go_enter Tryd.func48, Tryd.ntmps48
  clear h
  go_wp2_with fail
  refine (rrest base r t w Hps.out.rd (by omega)).mono ?_
  rintro e w1 ⟨rfl, hr1, hg1⟩
  have hps1 := Hps.out.read hg1 hr1
  have hb1 := Hps.out.below hg1
  clear hg1 hr1 c0 c1 f1
  go_wp2_with fail
  refine (Tryd.strings_Trim_one (ba t) 0 (by decide) w1 (by rw [ba_size]; omega)).mono ?_
  rintro e w2 ⟨rfl, hw2⟩
  have hps2 : Ps base p r (some (ba [])) l w2 := by
    rcases hw2 with rfl | rfl
    · exact hps1
    · exact ⟨hps1.low, hps1.ne, hps1.cells, ⟨hps1.rd.low, hps1.rd.cells⟩⟩
  have hb2 : Below base w w2 := by
    rcases hw2 with rfl | rfl
    · exact hb1
    · exact hb1.drew
  clear hw2 hps1 hb1
  have hq2 : (⟨(Lib.trimB (ba t).data.toList 0).toArray⟩ : ByteArray).toList.isEmpty = t.all (· == 0) := by
    rw [Lib.toList_data]; exact Hq.out
  generalize (⟨(Lib.trimB (ba t).data.toList 0).toArray⟩ : ByteArray) = u at *
  generalize ht : t.all (· == 0) = q at *
  clear ht
  cases q with
  | true =>
    have hq3 : u = ⟨#[]⟩ := O.empty_of_size u (by rw [isEmpty_size] at hq2; exact of_decide_eq_true hq2)
    clear hq2
    subst hq3
    go_wp2
    go_ret
    exact ⟨ret_i64 (by rw [← Hz.out]; rfl), hps2, hb2⟩
  | false =>
    have hq3 : (!u.toList.isEmpty) = true := by rw [hq2]; rfl
    have hq4 : ¬ u.toList = [] := fun e => by rw [e] at hq2; simp at hq2
    go_wp2
    go_ret
    exact ⟨ret_i64 (by rw [← Hz.out]; rfl), hps2, hb2⟩

theorem Ps.back {base p r : Nat} {o : Option ByteArray} {l m : List Opt} {w w' : World} {ao ao' : Option Addr} {cap cap' : Nat} (h : Ps base p r o l w) (hbuf : OptBuf base ao cap l w) (hg : w.grownBy w' (Value.ownBlock (.slice ao l.length cap))) (hbuf' : OptBuf base ao' cap' m w') :
    Ps base p r o m (w'.setCell ⟨p, 1, none⟩ (.slice ao' m.length cap')) ∧ Below base w (w'.setCell ⟨p, 1, none⟩ (.slice ao' m.length cap')) := by
  obtain ⟨low, ne, ⟨ao2, cap2, hc, hb⟩, rd⟩ := h
  have h1 : w'.heap[p]? = some (.cells #[.pointer (some ⟨r, 0, none⟩), .slice ao2 l.length cap2] 54 (0, 0)) :=
    (hg.block p (lt_of_block hc) (fun e => hbuf.apart hc (by decide) e.symm)).trans hc
  have h2 : w'.heap[r]? = _ := (hg.block r (lt_of_block rd.cells) (fun e => hbuf.apart rd.cells (by decide) e.symm)).trans rd.cells
  have hp := lt_of_block hc
  refine ⟨⟨low, ne, ⟨ao', cap', rd_set1 h1, ownsRow_setCell_other hbuf' (hbuf'.apart h1 (by decide)) _⟩, ⟨rd.low, ?_⟩⟩, ?_⟩
  · rw [Below.heap_setCell _ _ _ _ (fun e => ne e.symm)]; exact h2
  · exact ((Below.refl base w).grown hg (by omega) (fun k hk => (hbuf.lt k hk).1)).setCell low _

theorem Ps.old {base p r : Nat} {o : Option ByteArray} {l : List Opt} {w w' : World} {ao : Option Addr} {cap : Nat} (h : Ps base p r o l w) (hbuf : OptBuf base ao cap l w) (hg : w.grownBy w' (Value.ownBlock (.slice ao l.length cap))) :
    w'.frozen? ⟨p, 1, none⟩ = false ∧ ∃ v, w'.cell? ⟨p, 1, none⟩ = some v := by
  obtain ⟨low, ne, ⟨ao2, cap2, hc, hb⟩, rd⟩ := h
  have h1 : w'.heap[p]? = some (.cells #[.pointer (some ⟨r, 0, none⟩), .slice ao2 l.length cap2] 54 (0, 0)) :=
    (hg.block p (lt_of_block hc) (fun e => hbuf.apart hc (by decide) e.symm)).trans hc
  exact ⟨by simp [World.frozen?, h1], _, by simp [World.cell?, h1]; rfl⟩

theorem Ps.keep {base p r : Nat} {o : Option ByteArray} {l : List Opt} {w w' : World} {ao : Option Addr} {cap : Nat} (h : Ps base p r o l w) (hbuf : OptBuf base ao cap l w) (hc : w.cell? ⟨p, 1, none⟩ = some (.slice ao l.length cap)) (hg : w.grownBy w' (some r)) :
    OptBuf base ao cap l w' ∧ w'.cell? ⟨p, 1, none⟩ = some (.slice ao l.length cap) ∧ w'.cell? ⟨p, 0, none⟩ = some (.pointer (some ⟨r, 0, none⟩)) := by
  have hne : some p ≠ some r := fun e => by cases e; exact h.ne rfl
  exact ⟨World.ownsRow.kept hbuf hg (.inr (hbuf.apart h.rd.cells (by decide))), hg.cell hc hne, hg.cell h.at.1 hne⟩

theorem Ps.alloc {base p r : Nat} {o : Option ByteArray} {l : List Opt} {w : World} (h : Ps base p r o l w) (x : Obj) : Ps base p r o l (w.alloc x) := by
  obtain ⟨low, ne, ⟨ao, cap, hc, hb⟩, rd⟩ := h
  exact ⟨low, ne, ⟨ao, cap, (Below.heap_alloc w x p (lt_of_block hc)).trans hc, hb.alloc x⟩, ⟨rd.low, (Below.heap_alloc w x r (lt_of_block rd.cells)).trans rd.cells⟩⟩

theorem Ps.draw {base p r : Nat} {o : Option ByteArray} {l : List Opt} {w : World} (h : Ps base p r o l w) : Ps base p r o l w.drew :=
  ⟨h.low, h.ne, h.cells, ⟨h.rd.low, h.rd.cells⟩⟩

set_option maxHeartbeats 400000 in
theorem long_none (base p r : Nat) (k : Int) (l : List Opt) (w : World) (h : Ps base p r (some (ba [])) l w) :
    Calls Tryd.prog 49 #[.pointer (some ⟨p, 0, none⟩), .int .i64 k] w fun e w' => e = .returned (.int .i64 2) ∧ Below base w w' := by
  obtain ⟨c0, f1, hp, ao, cap, c1, hbuf⟩ := h.at
  have Hps := Lib.hid h
  clear hbuf
  go_enter Tryd.func49, Tryd.ntmps49
  clear h
  go_wp2_with fail
  refine (rbyte_nil base r w Hps.out.rd).mono ?_
  rintro e w1 ⟨rfl, hr1, hg1⟩
  have hps1 := Hps.out.read hg1 hr1
  have hb1 := Hps.out.below hg1
  obtain ⟨d0, _, _, _, _, _, _⟩ := hps1.at
  clear hg1 c0 c1 f1
  go_wp2_with fail
  refine (Ok_any base r none w1 hr1).mono ?_
  rintro e w2 ⟨rfl, rfl⟩
  go_wp2
  go_ret
  exact ⟨rfl, hb1⟩

set_option maxHeartbeats 400000 in
theorem long_short (base p r : Nat) (k : Int) (n : UInt8) (t : List UInt8) (l : List Opt) (w : World) (h : Ps base p r (some (ba (n :: t))) l w) (ht : t.length ≤ 100) (hn : 2 + t.length < n.toNat) :
    Calls Tryd.prog 49 #[.pointer (some ⟨p, 0, none⟩), .int .i64 k] w fun e w' => e = .returned (.int .i64 2) ∧ Below base w w' := by
  obtain ⟨c0, f1, hp, ao, cap, c1, hbuf⟩ := h.at
  have Hps := Lib.hid h
  clear hbuf
  have hn255 := n.toNat_lt
  go_enter Tryd.func49, Tryd.ntmps49
  clear h
  go_wp2_with fail
  refine (rbyte_cons base r n t w Hps.out.rd (by omega)).mono ?_
  rintro e w1 ⟨rfl, hr1, hg1⟩
  have hps1 := Hps.out.read hg1 hr1
  have hb1 := Hps.out.below hg1
  obtain ⟨d0, _, _, _, _, _, _⟩ := hps1.at
  clear hg1 c0 c1 f1
  generalize n.toNat = nn at *
  go_wp2_with fail
  refine (Ok_any base r _ w1 hr1).mono ?_
  rintro e w2 ⟨rfl, rfl⟩
  simp only [Option.isSome_some]
  go_wp2_with fail
  refine (Left_any base r _ w1 hr1).mono ?_
  rintro e w2 ⟨rfl, rfl⟩
  simp only [Option.getD_some, ba_size]
  go_wp2
  go_ret
  exact ⟨rfl, hb1⟩

set_option maxHeartbeats 400000 in
theorem long_form (base p r : Nat) (k : Int) (n : UInt8) (t : List UInt8) (l : List Opt) (w : World) (h : Ps base p r (some (ba (n :: t))) l w) (ht : t.length ≤ 100) (hn : n.toNat ≤ 2 + t.length) (hn2 : n.toNat < 2) :
    Calls Tryd.prog 49 #[.pointer (some ⟨p, 0, none⟩), .int .i64 k] w fun e w' => e = .returned (.int .i64 3) ∧ Below base w w' := by
  obtain ⟨c0, f1, hp, ao, cap, c1, hbuf⟩ := h.at
  have Hps := Lib.hid h
  clear hbuf
  have hn255 := n.toNat_lt
  go_enter Tryd.func49, Tryd.ntmps49
  clear h
  go_wp2_with fail
  refine (rbyte_cons base r n t w Hps.out.rd (by omega)).mono ?_
  rintro e w1 ⟨rfl, hr1, hg1⟩
  have hps1 := Hps.out.read hg1 hr1
  have hb1 := Hps.out.below hg1
  obtain ⟨d0, _, _, _, _, _, _⟩ := hps1.at
  clear hg1 c0 c1 f1
  generalize n.toNat = nn at *
  go_wp2_with fail
  refine (Ok_any base r _ w1 hr1).mono ?_
  rintro e w2 ⟨rfl, rfl⟩
  simp only [Option.isSome_some]
  go_wp2_with fail
  refine (Left_any base r _ w1 hr1).mono ?_
  rintro e w2 ⟨rfl, rfl⟩
  simp only [Option.getD_some, ba_size]
  go_wp2
  go_ret
  exact ⟨rfl, hb1⟩

set_option maxHeartbeats 2000000 in
theorem long_ok (base p r : Nat) (k : Int) (n : UInt8) (t : List UInt8) (l : List Opt) (w : World) (h : Ps base p r (some (ba (n :: t))) l w) (ht : t.length ≤ 100) (hl : l.length ≤ 1000) (hn : n.toNat ≤ 2 + t.length) (hn2 : 2 ≤ n.toNat) :
    Calls Tryd.prog 49 #[.pointer (some ⟨p, 0, none⟩), .int .i64 k] w fun e w' => e = .returned (.int .i64 0) ∧ Ps base p r (some (ba (t.drop (n.toNat - 2)))) (l ++ [⟨k, ba (t.take (n.toNat - 2))⟩]) w' ∧ Below base w w' := by
  obtain ⟨c0, f1, hp, ao, cap, c1, hbuf⟩ := h.at
  have Hps := Lib.hid h
  have hn255 := n.toNat_lt
  go_enter Tryd.func49, Tryd.ntmps49
  clear h
  go_wp2_with fail
  refine (rbyte_cons base r n t w Hps.out.rd (by omega)).mono ?_
  rintro e w1 ⟨rfl, hr1, hg1⟩
  have hps1 := Hps.out.read hg1 hr1
  have hb1 := Hps.out.below hg1
  clear hg1 c0 c1 f1 hbuf
  obtain ⟨d0, df, dp, ao, cap, d1, hbuf⟩ := hps1.at
  generalize hnn : n.toNat = nn at *
  have Hnn := Lib.hid hnn
  clear hnn
  go_wp2_with fail
  refine (Ok_any base r _ w1 hr1).mono ?_
  rintro e w2 ⟨rfl, rfl⟩
  simp only [Option.isSome_some]
  go_wp2_with fail
  refine (Left_any base r _ w1 hr1).mono ?_
  rintro e w2 ⟨rfl, rfl⟩
  simp only [Option.getD_some, ba_size]
  obtain ⟨m, hm⟩ : ∃ m : Nat, (nn : Int) - 2 = (m : Int) := ⟨nn - 2, by omega⟩
  have hmn : m = nn - 2 := by omega
  have Hm := Lib.hid hmn
  have hmt : m ≤ t.length := by omega
  have j1 : IntKind.i64.wrap (m : Int) = (m : Int) := IntWalk.i64_in _ (by omega)
  clear hmn
  have Hps1 := Lib.hid hps1
  have Hbuf := Lib.hid hbuf
  have Hr1 := Lib.hid hr1
  have hbase : base ≤ w1.heap.size := by have := hps1.low; omega
  clear hps1 hbuf hr1
  go_wp2
  go_region_law (first
    | (refine stepAppend rfl _ _ _ _ rfl _ _ rfl rfl _ _ Hrun.out ?_)
    | (go_simp; go_at_call 73;
       refine (rtake_in base r t m _ (by exact Hr1.out.draw) (by omega) hmt).mono ?_;
       rintro e w2 ⟨rfl, hr2, hg2⟩;
       obtain ⟨hbuf2, e1, e0⟩ := Ps.keep Hps1.out.draw (show OptBuf base ao cap l w1.drew from Hbuf.out) d1 hg2;
       have hps2 := Hps1.out.draw.read hg2 hr2;
       have hsz := hg2.size;
       have hp2 := hps2.at.2.2.1;
       obtain ⟨ao', cp', w3, hrun, hbuf3, hg3⟩ := append_opt base ao cap l (w2.alloc (.cells #[.int .i64 k, .string (ba (t.take m))] 48)) (hbuf2.alloc _) k (ba (t.take m)) w2.heap.size (by simp) (by simp) 23 (by omega) (by simp; simp at hsz; omega);
       obtain ⟨g1, v3, g0⟩ := Ps.old (hps2.alloc _) (hbuf2.alloc _) hg3;
       have hend := Ps.back (hps2.alloc _) (hbuf2.alloc _) hg3 hbuf3;
       have hb3 : Below base w (w2.alloc (.cells #[.int .i64 k, .string (ba (t.take m))] 48)) := (hb1.drew.trans (Hps1.out.draw.below hg2)).alloc (by simp at hsz; omega) _;
       have Hend := Lib.hid hend;
       have Hrun := Lib.hid hrun;
       clear hrun hend hbuf3 hg3 hbuf2 hps2 hg2 hr2))
  all_goals
    go_wp2
    go_ret
    rw [Hnn.out, ← Hm.out]
    have hlen : (l ++ [(⟨k, ba (t.take m)⟩ : Opt)]).length = l.length + 1 := by simp
    have h1 := Hend.out.1
    have h2 := hb3.trans Hend.out.2
    rw [hlen] at h1 h2
    exact ⟨rfl, h1, h2⟩

set_option maxHeartbeats 400000 in
theorem next_zero (base p r : Nat) (t : List UInt8) (l : List Opt) (w : World) (h : Ps base p r (some (ba (0 :: t))) l w) (ht : t.length ≤ 100) :
    Calls Tryd.prog 27 #[.pointer (some ⟨p, 0, none⟩)] w fun e w' => e = .returned (.int .i64 (if t.all (· == 0) then 0 else 3)) ∧ Ps base p r (some (ba [])) l w' ∧ Below base w w' := by
  obtain ⟨c0, f1, hp, ao, cap, c1, hbuf⟩ := h.at
  have Hps := Lib.hid h
  have He := Lib.hid (fun w h => ending_any base p r t l w h ht)
  generalize (if t.all (· == 0) then (0 : Int) else 3) = z at *
  clear hbuf
  go_enter Tryd.func27, Tryd.ntmps27
  clear h
  go_wp2_with fail
  refine (rbyte_cons base r 0 t w Hps.out.rd (by omega)).mono ?_
  rintro e w1 ⟨rfl, hr1, hg1⟩
  have hps1 := Hps.out.read hg1 hr1
  have hb1 := Hps.out.below hg1
  clear hg1 hr1 c0 c1 f1
  have hz : ((UInt8.toNat 0 : Nat) : Int) = 0 := rfl
  rw [hz]
  clear hz
  go_wp2_with fail
  refine (He.out w1 hps1).mono ?_
  rintro e w2 ⟨rfl, hps2, hb2⟩
  go_wp2
  go_ret
  exact ⟨rfl, hps2, hb1.trans hb2⟩

set_option maxHeartbeats 1000000 in
theorem next_one (base p r : Nat) (t : List UInt8) (l : List Opt) (w : World) (h : Ps base p r (some (ba (1 :: t))) l w) (ht : t.length ≤ 100) (hl : l.length ≤ 1000) :
    Calls Tryd.prog 27 #[.pointer (some ⟨p, 0, none⟩)] w fun e w' => e = .returned (.int .i64 0) ∧ Ps base p r (some (ba t)) (l ++ [⟨1, ⟨#[]⟩⟩]) w' ∧ Below base w w' := by
  obtain ⟨c0, f1, hp, ao, cap, c1, hbuf⟩ := h.at
  have Hps := Lib.hid h
  clear hbuf
  go_enter Tryd.func27, Tryd.ntmps27
  clear h
  go_wp2_with fail
  refine (rbyte_cons base r 1 t w Hps.out.rd (by omega)).mono ?_
  rintro e w1 ⟨rfl, hr1, hg1⟩
  have hps1 := Hps.out.read hg1 hr1
  have hb1 := Hps.out.below hg1
  clear hg1 hr1 c0 c1 f1
  have hz : ((UInt8.toNat 1 : Nat) : Int) = 1 := rfl
  rw [hz]
  clear hz
  obtain ⟨d0, df, dp, ao, cap, d1, hbuf⟩ := hps1.at
  have hlow := hps1.low
  obtain ⟨ao', cp', w3, hrun, hbuf3, hg3⟩ := append_opt base ao cap l (w1.alloc (.cells #[.int .i64 1, .string ⟨#[]⟩] 48)) (hbuf.alloc _) 1 ⟨#[]⟩ w1.heap.size (by simp) (by simp) 23 (by omega) (by simp; omega)
  obtain ⟨g1, v3, g0⟩ := Ps.old (hps1.alloc _) (hbuf.alloc _) hg3
  have hend := Ps.back (hps1.alloc _) (hbuf.alloc _) hg3 hbuf3
  have hb3 : Below base w (w1.alloc (.cells #[.int .i64 1, .string ⟨#[]⟩] 48)) := hb1.alloc (by omega) _
  have Hend := Lib.hid hend
  have Hrun := Lib.hid hrun
  clear hrun hend hbuf3 hg3 hbuf hps1 hb1
  go_wp2_with (at_builtin; refine listAppend rfl _ _ _ _ rfl _ _ rfl rfl _ _ Hrun.out ?_)
  go_ret
  have hlen : (l ++ [(⟨1, ⟨#[]⟩⟩ : Opt)]).length = l.length + 1 := by simp
  have h1 := Hend.out.1
  have h2 := hb3.trans Hend.out.2
  rw [hlen] at h1 h2
  exact ⟨rfl, by simpa using h1, by simpa using h2⟩

set_option maxHeartbeats 400000 in
theorem next_long (base p r : Nat) (k : UInt8) (t : List UInt8) (l : List Opt) (w : World) (h : Ps base p r (some (ba (k :: t))) l w) (ht : t.length ≤ 100) (hk0 : k ≠ 0) (hk1 : k ≠ 1) (z : Int) (Q : World → Prop)
    (H : ∀ w1, Ps base p r (some (ba t)) l w1 → Below base w w1 → Calls Tryd.prog 49 #[.pointer (some ⟨p, 0, none⟩), .int .i64 k.toNat] w1 fun e w' => e = .returned (.int .i64 z) ∧ Q w') :
    Calls Tryd.prog 27 #[.pointer (some ⟨p, 0, none⟩)] w fun e w' => e = .returned (.int .i64 z) ∧ Q w' := by
  obtain ⟨c0, f1, hp, ao, cap, c1, hbuf⟩ := h.at
  have Hps := Lib.hid h
  have HH := Lib.hid H
  have h2 : 2 ≤ k.toNat := by
    rcases Nat.lt_or_ge k.toNat 2 with h | h
    · exfalso
      rcases (show k.toNat = 0 ∨ k.toNat = 1 by omega) with h | h
      · exact hk0 (UInt8.toNat_inj.1 h)
      · exact hk1 (UInt8.toNat_inj.1 h)
    · exact h
  clear hbuf H hk0 hk1
  go_enter Tryd.func27, Tryd.ntmps27
  clear h
  go_wp2_with fail
  refine (rbyte_cons base r k t w Hps.out.rd (by omega)).mono ?_
  rintro e w1 ⟨rfl, hr1, hg1⟩
  have hps1 := Hps.out.read hg1 hr1
  have hb1 := Hps.out.below hg1
  clear hg1 hr1 c0 c1 f1
  generalize k.toNat = n at *
  go_wp2_with fail
  refine (HH.out w1 hps1 hb1).mono ?_
  rintro e w2 ⟨rfl, hq⟩
  go_wp2
  go_ret
  exact ⟨rfl, hq⟩

namespace O
def app (l : List Opt) (x : Except Nat (List Opt)) : Except Nat (List Opt) := match x with | .ok m => .ok (l ++ m) | .error e => .error e
theorem app_nil (x : Except Nat (List Opt)) : app [] x = x := by cases x <;> rfl
theorem app_snoc (l : List Opt) (o : Opt) (x : Except Nat (List Opt)) : app (l ++ [o]) x = app l (match x with | .ok m => .ok (o :: m) | .error e => .error e) := by cases x <;> simp [app]

/-- What a Parse ends in. -/
def Parsed (x : Except Nat (List Opt)) (w : World) (e : Ending) (w' : World) : Prop :=
  match x with
  | .ok l => ∃ ao cp, e = .returned (.tuple #[.slice ao l.length cp, .int .i64 0]) ∧ OptRow w' ao l ∧ Below w.heap.size w w'
  | .error n => e = .returned (.tuple #[.slice none 0 0, .int .i64 n]) ∧ Below w.heap.size w w'
end O

set_option maxHeartbeats 400000 in
theorem parse_long (s : List UInt8) (w : World) (hs : s.length ≤ 100000) (h : 40 < s.length) :
    Calls Tryd.prog 10 #[.string (ba s)] w (O.Parsed (.error 5) w) := by
  have hz := ba_size s
  go_enter Tryd.func10, Tryd.ntmps10
  go_wp2
  go_ret2
  exact ⟨rfl, Below.refl _ _⟩

set_option maxHeartbeats 400000 in
theorem parse_form (s : List UInt8) (w : World) (h : s.length ≤ 40) (h4 : s.length % 4 ≠ 0) :
    Calls Tryd.prog 10 #[.string (ba s)] w (O.Parsed (.error 3) w) := by
  have hz := ba_size s
  have hp : 0 < O.pad s.length := by unfold O.pad; omega
  go_enter Tryd.func10, Tryd.ntmps10
  go_wp2_with fail
  refine (padding_any s.length w (by omega)).mono ?_
  rintro e w1 ⟨rfl, rfl⟩
  generalize O.pad s.length = q at *
  go_wp2
  go_ret2
  exact ⟨rfl, Below.refl _ _⟩
#print axioms next_long
#print axioms ending_any
end Go.Proofs.YtncnildpbccpaaaDoor

namespace Go.Proofs.YtncnildpbccpaaaDoor
open Go.RowKit

theorem par_step_one (l : List Opt) (t : List UInt8) : O.app l (O.par (1 :: t)) = O.app (l ++ [⟨1, ⟨#[]⟩⟩]) (O.par t) := by rw [O.app_snoc, O.par_one]; rfl

theorem par_step_long (l : List Opt) (k n : UInt8) (t : List UInt8) (h0 : k ≠ 0) (h1 : k ≠ 1) (hn : n.toNat ≤ 2 + t.length) (hn2 : 2 ≤ n.toNat) :
    O.app l (O.par (k :: n :: t)) = O.app (l ++ [⟨(k.toNat : Int), ba (t.take (n.toNat - 2))⟩]) (O.par (t.drop (n.toNat - 2))) := by
  rw [O.app_snoc, O.par_long k n t h0 h1, if_neg (by omega), if_neg (by omega)]
  rfl

theorem error_of {l : List Opt} {x : Except Nat (List Opt)} {n : Nat} {y : Except Nat (List Opt)} (h : y = O.app l x) (hx : x = .error n) : y = .error n := by rw [h, hx]; rfl

set_option maxHeartbeats 2000000 in
theorem parse_go (s : List UInt8) (w : World) (h : s.length ≤ 40) (h4 : s.length % 4 = 0) :
    Calls Tryd.prog 10 #[.string (ba s)] w (O.Parsed (O.par s) w) := by
  have hz := ba_size s
  have hp : O.pad s.length = 0 := by unfold O.pad; omega
  have Hp := Lib.hid hp
  clear hp
  obtain ⟨R, hR⟩ : ∃ R, O.par s = R := ⟨_, rfl⟩
  have HR := Lib.hid hR
  rw [hR]
  clear hR
  have HP : Hid (∀ n w', R = .error n → Below w.heap.size w w' → O.Parsed R w (.returned (.tuple #[.slice none 0 0, .int .i64 n])) w') := Lib.hid (by rintro n w' rfl hb; exact ⟨rfl, hb⟩)
  have HO : Hid (∀ l ao cp w', R = .ok l → OptRow w' ao l → Below w.heap.size w w' → O.Parsed R w (.returned (.tuple #[.slice ao l.length cp, .int .i64 0])) w') := Lib.hid (by rintro l ao cp w' rfl h1 h2; exact ⟨ao, cp, rfl, h1, h2⟩)
  generalize hG : O.Parsed R w = G at *
  clear hG
  go_enter Tryd.func10, Tryd.ntmps10
  go_wp2_with fail
  refine (padding_any s.length w (by omega)).mono ?_
  rintro e w1 ⟨rfl, rfl⟩
  rw [Hp.out]
  go_wp2_with fail
  refine (Read_any (ba s) w).mono ?_
  rintro e w1 ⟨rfl, hr1, hb1⟩
  have hb1s := hb1.size
  have hlt1 := lt_of_block hr1.cells
  go_wp2
  have hps : Ps w.heap.size w1.heap.size w.heap.size (some (ba s)) [] (w1.alloc (.cells #[.pointer (some ⟨w.heap.size, 0, none⟩), .slice none 0 0] 54)) :=
    ⟨hb1s, by omega, ⟨none, 0, heap_alloc_new w1 _, OptBuf.nil _ _⟩, ⟨hr1.low, (Below.heap_alloc w1 _ _ hlt1).trans hr1.cells⟩⟩
  have hb2 : Below w.heap.size w (w1.alloc (.cells #[.pointer (some ⟨w.heap.size, 0, none⟩), .slice none 0 0] 54)) := hb1.alloc hb1s _
  clear hr1 hb1 hz
  generalize (w1.alloc (.cells #[.pointer (some ⟨w.heap.size, 0, none⟩), .slice none 0 0] 54)) = w2 at *
  generalize w1.heap.size = p at *
  generalize hB : w.heap.size = B at *
  clear hB hb1s hlt1
  go_loopg [5] s.length (fun g x wr => ∃ (t : List UInt8) (l : List Opt), t.length = g ∧ Ps B p B (some (ba t)) l wr ∧ Below B w wr ∧ Hid (R = O.app l (O.par t)) ∧ l.length + t.length ≤ 40)
  case atStart => exact ⟨s, [], rfl, hps, hb2, Lib.hid (by rw [O.app_nil]; exact HR.out.symm), by simpa using h⟩
  case round =>
    obtain ⟨t, l, hg, hps, hb, Hq, hlen⟩ := hrel
    have Hg := Lib.hid hg
    clear hg
    obtain ⟨c0, f1, hpl, ao, cap, c1, hbuf⟩ := hps.at
    have Hps := Lib.hid hps
    clear hps
    have Hbuf := Lib.hid hbuf
    clear hbuf
    go_wp2_with fail
    refine (Left_any B B (some (ba t)) wr Hps.out.rd).mono ?_
    rintro e w3 ⟨rfl, rfl⟩
    simp only [Option.getD_some, ba_size]
    match t, Hg, Hps, Hq, hlen with
    | [], Hg, Hps, Hq, hlen =>
      simp only [List.length_nil]
      go_wp2
      exact HO.out l ao cap wr (by rw [Hq.out, O.par_nil]; simp [O.app]) Hbuf.out.row hb
    | k :: t, Hg, Hps, Hq, hlen =>
      have hlen' : l.length + t.length + 1 ≤ 40 := by simpa [Nat.add_assoc] using hlen
      clear hlen
      simp only [List.length_cons]
      by_cases hk0 : k = 0
      · subst hk0
        go_wp2_with fail
        refine (next_zero B p B t l wr Hps.out (by omega)).mono ?_
        rintro e w3 ⟨rfl, hps3, hb3⟩
        have hbw := hb.trans hb3
        have hpz := O.par_zero t
        clear hb hb3 c0 c1 f1 Hbuf Hps
        cases hall : t.all (· == 0) with
        | true =>
          have Hpz : Hid (O.par (0 :: t) = .ok []) := Lib.hid (by rw [hpz, hall]; rfl)
          clear hall hpz
          simp only [if_true]
          go_wp2
          go_roundg 0
          case measure => rw [← Hg.out]; simp
          case rel => exact ⟨[], l, rfl, hps3, hbw, Lib.hid (by rw [Hq.out, Hpz.out, O.par_nil]), by simp; omega⟩
        | false =>
          have Hpz : Hid (O.par (0 :: t) = .error 3) := Lib.hid (by rw [hpz, hall]; rfl)
          clear hall hpz
          simp only [Bool.false_eq_true, if_false]
          go_wp2
          exact HP.out 3 w3 (error_of Hq.out Hpz.out) hbw
      · by_cases hk1 : k = 1
        · subst hk1
          go_wp2_with fail
          refine (next_one B p B t l wr Hps.out (by omega) (by omega)).mono ?_
          rintro e w3 ⟨rfl, hps3, hb3⟩
          have hbw := hb.trans hb3
          clear hb hb3 c0 c1 f1 Hbuf Hps
          go_wp2
          go_roundg t.length
          case measure => rw [← Hg.out]; simp
          case rel => exact ⟨t, _, rfl, hps3, hbw, Lib.hid (by rw [Hq.out, par_step_one]), by simp; omega⟩
        · match t, Hg, Hps, Hq, hlen' with
          | [], Hg, Hps, Hq, hlen' =>
            have Hpz := Lib.hid (O.par_end k hk0 hk1)
            go_wp2_with fail
            refine (next_long B p B k [] l wr Hps.out (by simp) hk0 hk1 2 (fun w' => Below B w w') (fun w1 h1 h2 => (long_none B p B _ l w1 h1).mono fun e w' ⟨he, hb'⟩ => ⟨he, (hb.trans h2).trans hb'⟩)).mono ?_
            rintro e w3 ⟨rfl, hbw⟩
            clear hb c0 c1 f1 Hbuf Hps
            go_wp2
            exact HP.out 2 w3 (error_of Hq.out Hpz.out) hbw
          | n :: t, Hg, Hps, Hq, hlen' =>
            have hlen : l.length + t.length + 2 ≤ 40 := by simpa [Nat.add_assoc] using hlen'
            clear hlen'
            have hpz := O.par_long k n t hk0 hk1
            by_cases hn : 2 + t.length < n.toNat
            · have Hpz : Hid (O.par (k :: n :: t) = .error 2) := Lib.hid (by rw [hpz, if_pos hn])
              clear hpz
              go_wp2_with fail
              refine (next_long B p B k (n :: t) l wr Hps.out (by simp; omega) hk0 hk1 2 (fun w' => Below B w w') (fun w1 h1 h2 => (long_short B p B _ n t l w1 h1 (by omega) hn).mono fun e w' ⟨he, hb'⟩ => ⟨he, (hb.trans h2).trans hb'⟩)).mono ?_
              rintro e w3 ⟨rfl, hbw⟩
              clear hb c0 c1 f1 Hbuf Hps
              go_wp2
              exact HP.out 2 w3 (error_of Hq.out Hpz.out) hbw
            · by_cases hn2 : n.toNat < 2
              · have Hpz : Hid (O.par (k :: n :: t) = .error 3) := Lib.hid (by rw [hpz, if_neg hn, if_pos hn2])
                clear hpz
                go_wp2_with fail
                refine (next_long B p B k (n :: t) l wr Hps.out (by simp; omega) hk0 hk1 3 (fun w' => Below B w w') (fun w1 h1 h2 => (long_form B p B _ n t l w1 h1 (by omega) (by omega) hn2).mono fun e w' ⟨he, hb'⟩ => ⟨he, (hb.trans h2).trans hb'⟩)).mono ?_
                rintro e w3 ⟨rfl, hbw⟩
                clear hb c0 c1 f1 Hbuf Hps
                go_wp2
                exact HP.out 3 w3 (error_of Hq.out Hpz.out) hbw
              · have Hst := Lib.hid (par_step_long l k n t hk0 hk1 (by omega) (by omega))
                clear hpz
                go_wp2_with fail
                refine (next_long B p B k (n :: t) l wr Hps.out (by simp; omega) hk0 hk1 0 (fun w' => Ps B p B (some (ba (t.drop (n.toNat - 2)))) (l ++ [⟨(k.toNat : Int), ba (t.take (n.toNat - 2))⟩]) w' ∧ Below B w w') (fun w1 h1 h2 => (long_ok B p B _ n t l w1 h1 (by omega) (by omega) (by omega) (by omega)).mono fun e w' ⟨he, hps', hb'⟩ => ⟨he, hps', (hb.trans h2).trans hb'⟩)).mono ?_
                rintro e w3 ⟨rfl, hps3, hbw⟩
                clear hb c0 c1 f1 Hbuf Hps
                go_wp2
                go_roundg (t.drop (n.toNat - 2)).length
                case measure => rw [← Hg.out]; simp; omega
                case rel => exact ⟨_, _, rfl, hps3, hbw, Lib.hid (by rw [Hq.out, Hst.out]), by simp; omega⟩

theorem optParse_any (s : List UInt8) (w : World) (hs : s.length ≤ 100000) : Calls Tryd.prog 10 #[.string (ba s)] w (O.Parsed (O.parse s) w) := by
  unfold O.parse
  split
  · exact parse_long s w hs (by omega)
  · split
    · exact parse_form s w (by omega) (by assumption)
    · exact parse_go s w (by omega) (by omega)
#print axioms optParse_any
end Go.Proofs.YtncnildpbccpaaaDoor

