/- The contracts of the library, laid at this dump (written by program). -/
import Derived.Shelf.Strings.Builder1
import Derived.Shelf.Strings.Builder2
import Derived.Shelf.Strings.Trim
import Derived.Shelf.Small.Utf8
import Derived.Shelf.Small.Strs
import Derived.Shelf.Strings.BuilderF
import Derived.Shelf.Strings.Search1
import Derived.Shelf.Strings.Prefix
import Derived.Shelf.Unicode.Decode
import Derived.Shelf.Strings.Runes
import Derived.Shelf.Strings.AsciiSet
import Derived.Shelf.Bits.Mul64
import Derived.Shelf.Strings.Repeat
import Derived.Shelf.Unicode.DecodeSlow
import Derived.Shelf.Unicode.DecodeAny
import Derived.Shelf.Unicode.DecodeLast
import Derived.Test.YtncnildpbccpaaaGreatDoorProg
import Derived.Test.YtncnildpbccpaaaGreatDoorKa
import Derived.Deep.RegionLaw
import Derived.Deep.LoopGhost
import Derived.IntWalk
set_option maxRecDepth 100000
namespace Go.Proofs
open Go.Shelf
def Tryz.lays170_ren : Go.Shelf.Ren := ⟨fun | 170 => 55 | n => n, fun | 70 => 87 | 3 => 3 | 0 => 0 | 72 => 89 | 37 => 40 | 5 => 5 | n => n, fun | n => n⟩
theorem Tryz.lays170 : Go.Proofs.Lays.n170 Tryz.prog Tryz.lays170_ren := {
  mixed := by kernel_rfl
  f170 := Tryz.func55.trans (congrArg some (by kernel_rfl))
  t0 := Tryz.underlying0
  a0 := Tryz.isAgg0
  z0 := Tryz.sizeOf0
  v0 := Tryz.zeroValue0
  t3 := Tryz.underlying3
  a3 := Tryz.isAgg3
  z3 := Tryz.sizeOf3
  v3 := Tryz.zeroValue3
  t37 := Tryz.underlying40
  a37 := Tryz.isAgg40
  z37 := Tryz.sizeOf40
  v37 := Tryz.zeroValue40
  t70 := Tryz.underlying87
  a70 := Tryz.isAgg87
  z70 := Tryz.sizeOf87
  v70 := Tryz.zeroValue87
  t72 := Tryz.underlying89
  a72 := Tryz.isAgg89
  z72 := Tryz.sizeOf89
  v72 := Tryz.zeroValue89 }
open Go.RowKit in
theorem Tryz.Builder_Len (B b : Nat) (bs : List Value) (w : World) (h : Lib.IsBuilder 89 5 B b bs w) :
    Calls Tryz.prog 55 #[.pointer (some ⟨b, 0, none⟩)] w fun e w' => e = .returned (.int .i64 bs.length) ∧ w' = w := Any.Builder_Len Tryz.lays170 B b bs w h
def Tryz.lays169_ren : Go.Shelf.Ren := ⟨fun | 169 => 56 | n => n, fun | 70 => 87 | 9 => 9 | 0 => 0 | 72 => 89 | 37 => 40 | 127 => 111 | 3 => 3 | 5 => 5 | n => n, fun | n => n⟩
theorem Tryz.lays169 : Go.Proofs.Lays.n169 Tryz.prog Tryz.lays169_ren := {
  mixed := by kernel_rfl
  f169 := Tryz.func56.trans (congrArg some (by kernel_rfl))
  t0 := Tryz.underlying0
  a0 := Tryz.isAgg0
  z0 := Tryz.sizeOf0
  v0 := Tryz.zeroValue0
  t3 := Tryz.underlying3
  a3 := Tryz.isAgg3
  z3 := Tryz.sizeOf3
  v3 := Tryz.zeroValue3
  t9 := Tryz.underlying9
  a9 := Tryz.isAgg9
  z9 := Tryz.sizeOf9
  v9 := Tryz.zeroValue9
  t37 := Tryz.underlying40
  a37 := Tryz.isAgg40
  z37 := Tryz.sizeOf40
  v37 := Tryz.zeroValue40
  t70 := Tryz.underlying87
  a70 := Tryz.isAgg87
  z70 := Tryz.sizeOf87
  v70 := Tryz.zeroValue87
  t72 := Tryz.underlying89
  a72 := Tryz.isAgg89
  z72 := Tryz.sizeOf89
  v72 := Tryz.zeroValue89
  t127 := Tryz.underlying111
  a127 := Tryz.isAgg111
  z127 := Tryz.sizeOf111
  v127 := Tryz.zeroValue111 }
theorem Tryz.Builder_Extra_169 : Builder.Extra Tryz.prog Tryz.lays169_ren := {
  sizeBuilder := by kernel_rfl
  liesBuilder := by kernel_rfl
  t5 := Tryz.underlying5
  a5 := Tryz.isAgg5
  z5 := Tryz.sizeOf5
  v5 := Tryz.zeroValue5
  infoByte := by kernel_rfl
  cellsByte := by kernel_rfl
  sizeByte := by kernel_rfl
  neB5 := by decide }
open Go.RowKit in
theorem Tryz.Builder_String (B b : Nat) (l : List UInt8) (w : World) (h : Lib.IsBuilder 89 5 B b (Lib.byteCells l) w) (h0 : l ≠ []) :
    Calls Tryz.prog 56 #[.pointer (some ⟨b, 0, none⟩)] w fun e w' => e = .returned (.string ⟨l.toArray⟩) ∧ Below B w w' := Any.Builder_String Tryz.lays169 Tryz.Builder_Extra_169 B b l w h h0
open Go.RowKit in
theorem Tryz.Builder_String_empty (B b : Nat) (w : World) (h : Lib.IsBuilder 89 5 B b [] w) (hBw : B ≤ w.heap.size) :
    Calls Tryz.prog 56 #[.pointer (some ⟨b, 0, none⟩)] w fun e w' => e = .returned (.string ⟨#[]⟩) ∧ Below B w w' := Any.Builder_String_empty Tryz.lays169 Tryz.Builder_Extra_169 B b w h hBw
open Go.RowKit in
theorem Tryz.Builder_String_any (B b : Nat) (l : List UInt8) (w : World) (h : Lib.IsBuilder 89 5 B b (Lib.byteCells l) w) (hBw : B ≤ w.heap.size) :
    Calls Tryz.prog 56 #[.pointer (some ⟨b, 0, none⟩)] w fun e w' => e = .returned (.string ⟨l.toArray⟩) ∧ Below B w w' := Any.Builder_String_any Tryz.lays169 Tryz.Builder_Extra_169 B b l w h hBw
def Tryz.lays241_ren : Go.Shelf.Ren := ⟨fun | 241 => 72 | 277 => 79 | n => n, fun | 70 => 87 | 3 => 3 | 0 => 0 | 72 => 89 | 37 => 40 | 5 => 5 | n => n, fun | n => n⟩
theorem Tryz.lays241 : Go.Proofs.Lays.n241 Tryz.prog Tryz.lays241_ren := {
  mixed := by kernel_rfl
  f241 := Tryz.func72.trans (congrArg some (by kernel_rfl))
  f277 := Tryz.func79.trans (congrArg some (by kernel_rfl))
  t0 := Tryz.underlying0
  a0 := Tryz.isAgg0
  z0 := Tryz.sizeOf0
  v0 := Tryz.zeroValue0
  t3 := Tryz.underlying3
  a3 := Tryz.isAgg3
  z3 := Tryz.sizeOf3
  v3 := Tryz.zeroValue3
  t37 := Tryz.underlying40
  a37 := Tryz.isAgg40
  z37 := Tryz.sizeOf40
  v37 := Tryz.zeroValue40
  t70 := Tryz.underlying87
  a70 := Tryz.isAgg87
  z70 := Tryz.sizeOf87
  v70 := Tryz.zeroValue87
  t72 := Tryz.underlying89
  a72 := Tryz.isAgg89
  z72 := Tryz.sizeOf89
  v72 := Tryz.zeroValue89 }
theorem Tryz.Builder_Extra_241 : Builder.Extra Tryz.prog Tryz.lays241_ren := {
  sizeBuilder := by kernel_rfl
  liesBuilder := by kernel_rfl
  t5 := Tryz.underlying5
  a5 := Tryz.isAgg5
  z5 := Tryz.sizeOf5
  v5 := Tryz.zeroValue5
  infoByte := by kernel_rfl
  cellsByte := by kernel_rfl
  sizeByte := by kernel_rfl
  neB5 := by decide }
open Go.RowKit in
theorem Tryz.Builder_grow_fresh (B b n : Nat) (w : World) (hB : B ≤ b) (hbk : w.heap[b]? = some (.cells #[.pointer (some ⟨b, 0, none⟩), .slice none 0 0] 89 (0, 0))) (hBw : B ≤ w.heap.size) (hn : n ≤ 281474976710656) :
    Calls Tryz.prog 72 #[.pointer (some ⟨b, 0, none⟩), .int .i64 n] w fun e w' => e = .returned (.tuple #[]) ∧ (Lib.BuilderAt 89 5 B b (.pointer (some ⟨b, 0, none⟩)) [] w' ∧ Below B w w') := Any.Builder_grow_fresh Tryz.lays241 Tryz.Builder_Extra_241 B b n w hB hbk hBw hn
def Tryz.lays165_ren : Go.Shelf.Ren := ⟨fun | 165 => 53 | 240 => 71 | 241 => 72 | 276 => 78 | 277 => 79 | n => n, fun | 70 => 87 | 3 => 3 | 0 => 0 | 4 => 4 | 9 => 9 | 20 => 20 | 72 => 89 | 37 => 40 | 164 => 118 | 5 => 5 | n => n, fun | n => n⟩
theorem Tryz.lays165 : Go.Proofs.Lays.n165 Tryz.prog Tryz.lays165_ren := {
  mixed := by kernel_rfl
  f165 := Tryz.func53.trans (congrArg some (by kernel_rfl))
  f240 := Tryz.func71.trans (congrArg some (by kernel_rfl))
  f241 := Tryz.func72.trans (congrArg some (by kernel_rfl))
  f276 := Tryz.func78.trans (congrArg some (by kernel_rfl))
  f277 := Tryz.func79.trans (congrArg some (by kernel_rfl))
  t0 := Tryz.underlying0
  a0 := Tryz.isAgg0
  z0 := Tryz.sizeOf0
  v0 := Tryz.zeroValue0
  t3 := Tryz.underlying3
  a3 := Tryz.isAgg3
  z3 := Tryz.sizeOf3
  v3 := Tryz.zeroValue3
  t4 := Tryz.underlying4
  a4 := Tryz.isAgg4
  z4 := Tryz.sizeOf4
  v4 := Tryz.zeroValue4
  t9 := Tryz.underlying9
  a9 := Tryz.isAgg9
  z9 := Tryz.sizeOf9
  v9 := Tryz.zeroValue9
  t20 := Tryz.underlying20
  a20 := Tryz.isAgg20
  z20 := Tryz.sizeOf20
  v20 := Tryz.zeroValue20
  t37 := Tryz.underlying40
  a37 := Tryz.isAgg40
  z37 := Tryz.sizeOf40
  v37 := Tryz.zeroValue40
  t70 := Tryz.underlying87
  a70 := Tryz.isAgg87
  z70 := Tryz.sizeOf87
  v70 := Tryz.zeroValue87
  t72 := Tryz.underlying89
  a72 := Tryz.isAgg89
  z72 := Tryz.sizeOf89
  v72 := Tryz.zeroValue89
  t164 := Tryz.underlying118
  a164 := Tryz.isAgg118
  z164 := Tryz.sizeOf118
  v164 := Tryz.zeroValue118 }
theorem Tryz.Builder_Extra_165 : Builder.Extra Tryz.prog Tryz.lays165_ren := {
  sizeBuilder := by kernel_rfl
  liesBuilder := by kernel_rfl
  t5 := Tryz.underlying5
  a5 := Tryz.isAgg5
  z5 := Tryz.sizeOf5
  v5 := Tryz.zeroValue5
  infoByte := by kernel_rfl
  cellsByte := by kernel_rfl
  sizeByte := by kernel_rfl
  neB5 := by decide }
open Go.RowKit in
theorem Tryz.Builder_Grow_fresh (B b n : Nat) (w : World) (hB : B ≤ b) (hbk : w.heap[b]? = some (.cells #[.pointer none, .slice none 0 0] 89 (0, 0))) (hBw : B ≤ w.heap.size) (hn : n ≤ 281474976710656) :
    Calls Tryz.prog 53 #[.pointer (some ⟨b, 0, none⟩), .int .i64 n] w fun e w' => e = .returned (.tuple #[]) ∧ (Lib.BuilderAt 89 5 B b (.pointer (some ⟨b, 0, none⟩)) [] w' ∧ Below B w w') := Any.Builder_Grow_fresh Tryz.lays165 Tryz.Builder_Extra_165 B b n w hB hbk hBw hn
def Tryz.lays231_ren : Go.Shelf.Ren := ⟨fun | 231 => 83 | n => n, fun | 9 => 9 | 5 => 5 | 3 => 3 | 4 => 4 | n => n, fun | n => n⟩
theorem Tryz.lays231 : Go.Proofs.Lays.n231 Tryz.prog Tryz.lays231_ren := {
  mixed := by kernel_rfl
  f231 := Tryz.func83.trans (congrArg some (by kernel_rfl))
  t3 := Tryz.underlying3
  a3 := Tryz.isAgg3
  z3 := Tryz.sizeOf3
  v3 := Tryz.zeroValue3
  t4 := Tryz.underlying4
  a4 := Tryz.isAgg4
  z4 := Tryz.sizeOf4
  v4 := Tryz.zeroValue4
  t5 := Tryz.underlying5
  a5 := Tryz.isAgg5
  z5 := Tryz.sizeOf5
  v5 := Tryz.zeroValue5
  t9 := Tryz.underlying9
  a9 := Tryz.isAgg9
  z9 := Tryz.sizeOf9
  v9 := Tryz.zeroValue9 }
open Go.RowKit in
theorem Tryz.strings_trimLeftByte (s : ByteArray) (c : UInt8) (w : World) :
    Calls Tryz.prog 83 #[.string s, .int .u8 c.toNat] w fun e w' => e = .returned (.string ⟨(Lib.trimLeftB s.data.toList c).toArray⟩) ∧ w' = w := Any.strings_trimLeftByte Tryz.lays231 s c w
def Tryz.lays232_ren : Go.Shelf.Ren := ⟨fun | 232 => 84 | n => n, fun | 9 => 9 | 5 => 5 | 3 => 3 | 4 => 4 | n => n, fun | n => n⟩
theorem Tryz.lays232 : Go.Proofs.Lays.n232 Tryz.prog Tryz.lays232_ren := {
  mixed := by kernel_rfl
  f232 := Tryz.func84.trans (congrArg some (by kernel_rfl))
  t3 := Tryz.underlying3
  a3 := Tryz.isAgg3
  z3 := Tryz.sizeOf3
  v3 := Tryz.zeroValue3
  t4 := Tryz.underlying4
  a4 := Tryz.isAgg4
  z4 := Tryz.sizeOf4
  v4 := Tryz.zeroValue4
  t5 := Tryz.underlying5
  a5 := Tryz.isAgg5
  z5 := Tryz.sizeOf5
  v5 := Tryz.zeroValue5
  t9 := Tryz.underlying9
  a9 := Tryz.isAgg9
  z9 := Tryz.sizeOf9
  v9 := Tryz.zeroValue9 }
open Go.RowKit in
theorem Tryz.strings_trimRightByte (s : ByteArray) (c : UInt8) (w : World) (hs : s.size ≤ 9223372036854775807) :
    Calls Tryz.prog 84 #[.string s, .int .u8 c.toNat] w fun e w' => e = .returned (.string ⟨(Lib.trimRightB s.data.toList c).toArray⟩) ∧ w' = w := Any.strings_trimRightByte Tryz.lays232 s c w hs
def Tryz.lays160_ren : Go.Shelf.Ren := ⟨fun | 160 => 82 | 232 => 84 | 231 => 83 | 227 => 85 | 234 => 87 | 233 => 86 | 236 => 89 | 235 => 88 | 228 => 90 | 271 => 93 | 151 => 92 | 197 => 91 | 120 => 96 | 152 => 95 | 260 => 94 | 137 => 97 | 119 => 98 | 224 => 99 | 225 => 100 | 217 => 101 | 266 => 102 | n => n, fun | 9 => 9 | 4 => 4 | 3 => 3 | 5 => 5 | 117 => 126 | 116 => 125 | 0 => 0 | 124 => 129 | 21 => 21 | 105 => 131 | 46 => 77 | 119 => 135 | 139 => 138 | 138 => 137 | n => n, fun | 3 => 1 | 4 => 2 | n => n⟩
theorem Tryz.lays160 : Go.Proofs.Lays.n160 Tryz.prog Tryz.lays160_ren := {
  mixed := by kernel_rfl
  f119 := Tryz.func98.trans (congrArg some (by kernel_rfl))
  f120 := Tryz.func96.trans (congrArg some (by kernel_rfl))
  f137 := Tryz.func97.trans (congrArg some (by kernel_rfl))
  f151 := Tryz.func92.trans (congrArg some (by kernel_rfl))
  f152 := Tryz.func95.trans (congrArg some (by kernel_rfl))
  f160 := Tryz.func82.trans (congrArg some (by kernel_rfl))
  f197 := Tryz.func91.trans (congrArg some (by kernel_rfl))
  f217 := Tryz.func101.trans (congrArg some (by kernel_rfl))
  f224 := Tryz.func99.trans (congrArg some (by kernel_rfl))
  f225 := Tryz.func100.trans (congrArg some (by kernel_rfl))
  f227 := Tryz.func85.trans (congrArg some (by kernel_rfl))
  f228 := Tryz.func90.trans (congrArg some (by kernel_rfl))
  f231 := Tryz.func83.trans (congrArg some (by kernel_rfl))
  f232 := Tryz.func84.trans (congrArg some (by kernel_rfl))
  f233 := Tryz.func86.trans (congrArg some (by kernel_rfl))
  f234 := Tryz.func87.trans (congrArg some (by kernel_rfl))
  f235 := Tryz.func88.trans (congrArg some (by kernel_rfl))
  f236 := Tryz.func89.trans (congrArg some (by kernel_rfl))
  f260 := Tryz.func94.trans (congrArg some (by kernel_rfl))
  f266 := Tryz.func102.trans (congrArg some (by kernel_rfl))
  f271 := Tryz.func93.trans (congrArg some (by kernel_rfl))
  t0 := Tryz.underlying0
  a0 := Tryz.isAgg0
  z0 := Tryz.sizeOf0
  v0 := Tryz.zeroValue0
  t3 := Tryz.underlying3
  a3 := Tryz.isAgg3
  z3 := Tryz.sizeOf3
  v3 := Tryz.zeroValue3
  t4 := Tryz.underlying4
  a4 := Tryz.isAgg4
  z4 := Tryz.sizeOf4
  v4 := Tryz.zeroValue4
  t5 := Tryz.underlying5
  a5 := Tryz.isAgg5
  z5 := Tryz.sizeOf5
  v5 := Tryz.zeroValue5
  t9 := Tryz.underlying9
  a9 := Tryz.isAgg9
  z9 := Tryz.sizeOf9
  v9 := Tryz.zeroValue9
  t21 := Tryz.underlying21
  a21 := Tryz.isAgg21
  z21 := Tryz.sizeOf21
  v21 := Tryz.zeroValue21
  t46 := Tryz.underlying77
  a46 := Tryz.isAgg77
  z46 := Tryz.sizeOf77
  v46 := Tryz.zeroValue77
  t105 := Tryz.underlying131
  a105 := Tryz.isAgg131
  z105 := Tryz.sizeOf131
  v105 := Tryz.zeroValue131
  t116 := Tryz.underlying125
  a116 := Tryz.isAgg125
  z116 := Tryz.sizeOf125
  t117 := Tryz.underlying126
  a117 := Tryz.isAgg126
  z117 := Tryz.sizeOf126
  v117 := Tryz.zeroValue126
  t119 := Tryz.underlying135
  a119 := Tryz.isAgg135
  z119 := Tryz.sizeOf135
  t124 := Tryz.underlying129
  a124 := Tryz.isAgg129
  z124 := Tryz.sizeOf129
  v124 := Tryz.zeroValue129
  t138 := Tryz.underlying137
  a138 := Tryz.isAgg137
  z138 := Tryz.sizeOf137
  v138 := Tryz.zeroValue137
  t139 := Tryz.underlying138
  a139 := Tryz.isAgg138
  z139 := Tryz.sizeOf138
  v139 := Tryz.zeroValue138
  g3 := by kernel_rfl
  g4 := by kernel_rfl }
open Go.RowKit in
theorem Tryz.strings_Trim_one (s : ByteArray) (c : UInt8) (hc : c.toNat < 128) (w : World) (hs : s.size ≤ 9223372036854775807) :
    Calls Tryz.prog 82 #[.string s, .string ⟨#[c]⟩] w fun e w' => e = .returned (.string ⟨(Lib.trimB s.data.toList c).toArray⟩) ∧ (w' = w ∨ w' = w.drew) := Any.strings_Trim_one Tryz.lays160 s c hc w hs
def Tryz.lays119_ren : Go.Shelf.Ren := ⟨fun | 119 => 98 | n => n, fun | 21 => 21 | 4 => 4 | n => n, fun | n => n⟩
theorem Tryz.lays119 : Go.Proofs.Lays.n119 Tryz.prog Tryz.lays119_ren := {
  mixed := by kernel_rfl
  f119 := Tryz.func98.trans (congrArg some (by kernel_rfl))
  t4 := Tryz.underlying4
  a4 := Tryz.isAgg4
  z4 := Tryz.sizeOf4
  v4 := Tryz.zeroValue4
  t21 := Tryz.underlying21
  a21 := Tryz.isAgg21
  z21 := Tryz.sizeOf21
  v21 := Tryz.zeroValue21 }
theorem Tryz.utf8_ValidRune (r : Int) (w : World) :
    Calls Tryz.prog 98 #[.int .i32 r] w fun e w' => e = .returned (.bool (Lib.validRune r)) ∧ w' = w := Any.utf8_ValidRune Tryz.lays119 r w
def Tryz.lays120_ren : Go.Shelf.Ren := ⟨fun | 120 => 96 | n => n, fun | 5 => 5 | 4 => 4 | n => n, fun | n => n⟩
theorem Tryz.lays120 : Go.Proofs.Lays.n120 Tryz.prog Tryz.lays120_ren := {
  mixed := by kernel_rfl
  f120 := Tryz.func96.trans (congrArg some (by kernel_rfl))
  t4 := Tryz.underlying4
  a4 := Tryz.isAgg4
  z4 := Tryz.sizeOf4
  v4 := Tryz.zeroValue4
  t5 := Tryz.underlying5
  a5 := Tryz.isAgg5
  z5 := Tryz.sizeOf5
  v5 := Tryz.zeroValue5 }
theorem Tryz.utf8_RuneStart (b : Int) (w : World) (h0 : 0 ≤ b) (h1 : b < 256) :
    Calls Tryz.prog 96 #[.int .u8 b] w fun e w' => e = .returned (.bool (Lib.runeStart b)) ∧ w' = w := Any.utf8_RuneStart Tryz.lays120 b w h0 h1
def Tryz.lays137_ren : Go.Shelf.Ren := ⟨fun | 137 => 97 | 217 => 101 | 266 => 102 | n => n, fun | 9 => 9 | 5 => 5 | 3 => 3 | n => n, fun | n => n⟩
theorem Tryz.lays137 : Go.Proofs.Lays.n137 Tryz.prog Tryz.lays137_ren := {
  mixed := by kernel_rfl
  f137 := Tryz.func97.trans (congrArg some (by kernel_rfl))
  f217 := Tryz.func101.trans (congrArg some (by kernel_rfl))
  f266 := Tryz.func102.trans (congrArg some (by kernel_rfl))
  t3 := Tryz.underlying3
  a3 := Tryz.isAgg3
  z3 := Tryz.sizeOf3
  v3 := Tryz.zeroValue3
  t5 := Tryz.underlying5
  a5 := Tryz.isAgg5
  z5 := Tryz.sizeOf5
  v5 := Tryz.zeroValue5
  t9 := Tryz.underlying9
  a9 := Tryz.isAgg9
  z9 := Tryz.sizeOf9
  v9 := Tryz.zeroValue9 }
open Go.RowKit in
theorem Tryz.strings_IndexByte (s : ByteArray) (c : Int) (w : World) :
    Calls Tryz.prog 97 #[.string s, .int .u8 c] w fun e w' => e = .returned (.int .i64 (Lib.indexByte s.data.toList c.toNat.toUInt8)) ∧ w' = w := Any.strings_IndexByte Tryz.lays137 s c w
open Go.RowKit in
theorem Tryz.Builder_Len_f (B b : Nat) (bs : List Value) (w : World) (h : Lib.IsBuilderF 89 5 B b bs w) :
    Calls Tryz.prog 55 #[.pointer (some ⟨b, 0, none⟩)] w fun e w' => e = .returned (.int .i64 bs.length) ∧ w' = w := Any.Builder_Len_f Tryz.lays170 B b bs w h
open Go.RowKit in
theorem Tryz.Builder_String_f (B b : Nat) (l : List UInt8) (w : World) (h : Lib.IsBuilderF 89 5 B b (Lib.byteCells l) w) (h0 : l ≠ []) :
    Calls Tryz.prog 56 #[.pointer (some ⟨b, 0, none⟩)] w fun e w' => e = .returned (.string ⟨l.toArray⟩) ∧ (Lib.IsBuilderF 89 5 B b (Lib.byteCells l) w' ∧ Below B w w') := Any.Builder_String_f Tryz.lays169 Tryz.Builder_Extra_169 B b l w h h0
open Go.RowKit in
theorem Tryz.Builder_String_empty_f (B b : Nat) (w : World) (h : Lib.IsBuilderF 89 5 B b [] w) (hBw : B ≤ w.heap.size) :
    Calls Tryz.prog 56 #[.pointer (some ⟨b, 0, none⟩)] w fun e w' => e = .returned (.string ⟨#[]⟩) ∧ (Lib.IsBuilderF 89 5 B b [] w' ∧ Below B w w') := Any.Builder_String_empty_f Tryz.lays169 Tryz.Builder_Extra_169 B b w h hBw
open Go.RowKit in
theorem Tryz.Builder_String_any_f (B b : Nat) (l : List UInt8) (w : World) (h : Lib.IsBuilderF 89 5 B b (Lib.byteCells l) w) (hBw : B ≤ w.heap.size) :
    Calls Tryz.prog 56 #[.pointer (some ⟨b, 0, none⟩)] w fun e w' => e = .returned (.string ⟨l.toArray⟩) ∧ (Lib.IsBuilderF 89 5 B b (Lib.byteCells l) w' ∧ Below B w w') := Any.Builder_String_any_f Tryz.lays169 Tryz.Builder_Extra_169 B b l w h hBw
def Tryz.lays217_ren : Go.Shelf.Ren := ⟨fun | 217 => 101 | 266 => 102 | n => n, fun | 9 => 9 | 5 => 5 | 3 => 3 | n => n, fun | n => n⟩
theorem Tryz.lays217 : Go.Proofs.Lays.n217 Tryz.prog Tryz.lays217_ren := {
  mixed := by kernel_rfl
  f217 := Tryz.func101.trans (congrArg some (by kernel_rfl))
  f266 := Tryz.func102.trans (congrArg some (by kernel_rfl))
  t3 := Tryz.underlying3
  a3 := Tryz.isAgg3
  z3 := Tryz.sizeOf3
  v3 := Tryz.zeroValue3
  t5 := Tryz.underlying5
  a5 := Tryz.isAgg5
  z5 := Tryz.sizeOf5
  v5 := Tryz.zeroValue5
  t9 := Tryz.underlying9
  a9 := Tryz.isAgg9
  z9 := Tryz.sizeOf9
  v9 := Tryz.zeroValue9 }
open Go.RowKit Go.Lib in
theorem Tryz.stringslite_IndexByte (s : ByteArray) (c : Int) (w : World) :
    Calls Tryz.prog 101 #[.string s, .int .u8 c] w fun e w' => e = .returned (.int .i64 (Lib.indexByte s.data.toList c.toNat.toUInt8)) ∧ w' = w := Any.stringslite_IndexByte Tryz.lays217 s c w
def Tryz.lays224_ren : Go.Shelf.Ren := ⟨fun | 224 => 99 | n => n, fun | 3 => 3 | n => n, fun | n => n⟩
theorem Tryz.lays224 : Go.Proofs.Lays.n224 Tryz.prog Tryz.lays224_ren := {
  mixed := by kernel_rfl
  f224 := Tryz.func99.trans (congrArg some (by kernel_rfl))
  t3 := Tryz.underlying3
  a3 := Tryz.isAgg3
  z3 := Tryz.sizeOf3
  v3 := Tryz.zeroValue3 }
open Go.RowKit Go.Lib in
theorem Tryz.bytealg_Cutover (n : Int) (h0 : 0 ≤ n) (h1 : n < 4611686018427387904) (w : World) :
    Calls Tryz.prog 99 #[.int .i64 n] w fun e w' => e = .returned (.int .i64 ((n + 16) / 8)) ∧ w' = w := Any.bytealg_Cutover Tryz.lays224 n h0 h1 w
def Tryz.lays206_ren : Go.Shelf.Ren := ⟨fun | 206 => 70 | n => n, fun | 9 => 9 | 4 => 4 | 3 => 3 | n => n, fun | n => n⟩
theorem Tryz.lays206 : Go.Proofs.Lays.n206 Tryz.prog Tryz.lays206_ren := {
  mixed := by kernel_rfl
  f206 := Tryz.func70.trans (congrArg some (by kernel_rfl))
  t3 := Tryz.underlying3
  a3 := Tryz.isAgg3
  z3 := Tryz.sizeOf3
  v3 := Tryz.zeroValue3
  t4 := Tryz.underlying4
  a4 := Tryz.isAgg4
  z4 := Tryz.sizeOf4
  v4 := Tryz.zeroValue4
  t9 := Tryz.underlying9
  a9 := Tryz.isAgg9
  z9 := Tryz.sizeOf9
  v9 := Tryz.zeroValue9 }
open Go.RowKit Go.Lib in
theorem Tryz.stringslite_HasPrefix (s p : ByteArray) (w : World) :
    Calls Tryz.prog 70 #[.string s, .string p] w fun e w' => e = .returned (.bool (Lib.hasPrefix s.data.toList p.data.toList)) ∧ w' = w := Any.stringslite_HasPrefix Tryz.lays206 s p w
def Tryz.lays99_ren : Go.Shelf.Ren := ⟨fun | 99 => 52 | 206 => 70 | n => n, fun | 9 => 9 | 4 => 4 | 3 => 3 | n => n, fun | n => n⟩
theorem Tryz.lays99 : Go.Proofs.Lays.n99 Tryz.prog Tryz.lays99_ren := {
  mixed := by kernel_rfl
  f99 := Tryz.func52.trans (congrArg some (by kernel_rfl))
  f206 := Tryz.func70.trans (congrArg some (by kernel_rfl))
  t3 := Tryz.underlying3
  a3 := Tryz.isAgg3
  z3 := Tryz.sizeOf3
  v3 := Tryz.zeroValue3
  t4 := Tryz.underlying4
  a4 := Tryz.isAgg4
  z4 := Tryz.sizeOf4
  v4 := Tryz.zeroValue4
  t9 := Tryz.underlying9
  a9 := Tryz.isAgg9
  z9 := Tryz.sizeOf9
  v9 := Tryz.zeroValue9 }
open Go.RowKit Go.Lib in
theorem Tryz.strings_HasPrefix (s p : ByteArray) (w : World) :
    Calls Tryz.prog 52 #[.string s, .string p] w fun e w' => e = .returned (.bool (Lib.hasPrefix s.data.toList p.data.toList)) ∧ w' = w := Any.strings_HasPrefix Tryz.lays99 s p w
def Tryz.lays197_ren : Go.Shelf.Ren := ⟨fun | 197 => 91 | 260 => 94 | n => n, fun | 9 => 9 | 21 => 21 | 3 => 3 | 4 => 4 | 5 => 5 | 105 => 131 | 119 => 135 | 0 => 0 | 46 => 77 | 139 => 138 | 138 => 137 | n => n, fun | 3 => 1 | 4 => 2 | n => n⟩
theorem Tryz.lays197 : Go.Proofs.Lays.n197 Tryz.prog Tryz.lays197_ren := {
  mixed := by kernel_rfl
  f197 := Tryz.func91.trans (congrArg some (by kernel_rfl))
  f260 := Tryz.func94.trans (congrArg some (by kernel_rfl))
  t0 := Tryz.underlying0
  a0 := Tryz.isAgg0
  z0 := Tryz.sizeOf0
  v0 := Tryz.zeroValue0
  t3 := Tryz.underlying3
  a3 := Tryz.isAgg3
  z3 := Tryz.sizeOf3
  v3 := Tryz.zeroValue3
  t4 := Tryz.underlying4
  a4 := Tryz.isAgg4
  z4 := Tryz.sizeOf4
  v4 := Tryz.zeroValue4
  t5 := Tryz.underlying5
  a5 := Tryz.isAgg5
  z5 := Tryz.sizeOf5
  v5 := Tryz.zeroValue5
  t9 := Tryz.underlying9
  a9 := Tryz.isAgg9
  z9 := Tryz.sizeOf9
  v9 := Tryz.zeroValue9
  t21 := Tryz.underlying21
  a21 := Tryz.isAgg21
  z21 := Tryz.sizeOf21
  v21 := Tryz.zeroValue21
  t46 := Tryz.underlying77
  a46 := Tryz.isAgg77
  z46 := Tryz.sizeOf77
  v46 := Tryz.zeroValue77
  t105 := Tryz.underlying131
  a105 := Tryz.isAgg131
  z105 := Tryz.sizeOf131
  v105 := Tryz.zeroValue131
  t119 := Tryz.underlying135
  a119 := Tryz.isAgg135
  z119 := Tryz.sizeOf135
  t138 := Tryz.underlying137
  a138 := Tryz.isAgg137
  z138 := Tryz.sizeOf137
  v138 := Tryz.zeroValue137
  t139 := Tryz.underlying138
  a139 := Tryz.isAgg138
  z139 := Tryz.sizeOf138
  v139 := Tryz.zeroValue138
  g3 := by kernel_rfl
  g4 := by kernel_rfl }
open Go.RowKit Go.Lib in
theorem Tryz.utf8_DecodeRuneInString_ascii (s : ByteArray) (x : UInt8) (w : World) (h0 : s.data.toList[0]? = some x) (hx : x.toNat < 128) :
    Calls Tryz.prog 91 #[.string s] w fun e w' => e = .returned (.tuple #[.int .i32 x.toNat, .int .i64 1]) ∧ w' = w := Any.utf8_DecodeRuneInString_ascii Tryz.lays197 s x w h0 hx
def Tryz.lays152_ren : Go.Shelf.Ren := ⟨fun | 152 => 95 | 137 => 97 | 119 => 98 | 224 => 99 | 225 => 100 | 217 => 101 | 266 => 102 | n => n, fun | 9 => 9 | 21 => 21 | 3 => 3 | 4 => 4 | 5 => 5 | 0 => 0 | 46 => 77 | n => n, fun | n => n⟩
theorem Tryz.lays152 : Go.Proofs.Lays.n152 Tryz.prog Tryz.lays152_ren := {
  mixed := by kernel_rfl
  f119 := Tryz.func98.trans (congrArg some (by kernel_rfl))
  f137 := Tryz.func97.trans (congrArg some (by kernel_rfl))
  f152 := Tryz.func95.trans (congrArg some (by kernel_rfl))
  f217 := Tryz.func101.trans (congrArg some (by kernel_rfl))
  f224 := Tryz.func99.trans (congrArg some (by kernel_rfl))
  f225 := Tryz.func100.trans (congrArg some (by kernel_rfl))
  f266 := Tryz.func102.trans (congrArg some (by kernel_rfl))
  t0 := Tryz.underlying0
  a0 := Tryz.isAgg0
  z0 := Tryz.sizeOf0
  v0 := Tryz.zeroValue0
  t3 := Tryz.underlying3
  a3 := Tryz.isAgg3
  z3 := Tryz.sizeOf3
  v3 := Tryz.zeroValue3
  t4 := Tryz.underlying4
  a4 := Tryz.isAgg4
  z4 := Tryz.sizeOf4
  v4 := Tryz.zeroValue4
  t5 := Tryz.underlying5
  a5 := Tryz.isAgg5
  z5 := Tryz.sizeOf5
  v5 := Tryz.zeroValue5
  t9 := Tryz.underlying9
  a9 := Tryz.isAgg9
  z9 := Tryz.sizeOf9
  v9 := Tryz.zeroValue9
  t21 := Tryz.underlying21
  a21 := Tryz.isAgg21
  z21 := Tryz.sizeOf21
  v21 := Tryz.zeroValue21
  t46 := Tryz.underlying77
  a46 := Tryz.isAgg77
  z46 := Tryz.sizeOf77
  v46 := Tryz.zeroValue77 }
open Go.RowKit Go.Lib in
theorem Tryz.strings_IndexRune_ascii (s : ByteArray) (r : Int) (w : World) (h0 : 0 ≤ r) (h1 : r < 128) :
    Calls Tryz.prog 95 #[.string s, .int .i32 r] w fun e w' => e = .returned (.int .i64 (Lib.indexByte s.data.toList r.toNat.toUInt8)) ∧ w' = w := Any.strings_IndexRune_ascii Tryz.lays152 s r w h0 h1
def Tryz.lays151_ren : Go.Shelf.Ren := ⟨fun | 151 => 92 | 152 => 95 | 137 => 97 | 119 => 98 | 224 => 99 | 225 => 100 | 217 => 101 | 266 => 102 | n => n, fun | 9 => 9 | 21 => 21 | 4 => 4 | 3 => 3 | 5 => 5 | 0 => 0 | 46 => 77 | n => n, fun | n => n⟩
theorem Tryz.lays151 : Go.Proofs.Lays.n151 Tryz.prog Tryz.lays151_ren := {
  mixed := by kernel_rfl
  f119 := Tryz.func98.trans (congrArg some (by kernel_rfl))
  f137 := Tryz.func97.trans (congrArg some (by kernel_rfl))
  f151 := Tryz.func92.trans (congrArg some (by kernel_rfl))
  f152 := Tryz.func95.trans (congrArg some (by kernel_rfl))
  f217 := Tryz.func101.trans (congrArg some (by kernel_rfl))
  f224 := Tryz.func99.trans (congrArg some (by kernel_rfl))
  f225 := Tryz.func100.trans (congrArg some (by kernel_rfl))
  f266 := Tryz.func102.trans (congrArg some (by kernel_rfl))
  t0 := Tryz.underlying0
  a0 := Tryz.isAgg0
  z0 := Tryz.sizeOf0
  v0 := Tryz.zeroValue0
  t3 := Tryz.underlying3
  a3 := Tryz.isAgg3
  z3 := Tryz.sizeOf3
  v3 := Tryz.zeroValue3
  t4 := Tryz.underlying4
  a4 := Tryz.isAgg4
  z4 := Tryz.sizeOf4
  v4 := Tryz.zeroValue4
  t5 := Tryz.underlying5
  a5 := Tryz.isAgg5
  z5 := Tryz.sizeOf5
  v5 := Tryz.zeroValue5
  t9 := Tryz.underlying9
  a9 := Tryz.isAgg9
  z9 := Tryz.sizeOf9
  v9 := Tryz.zeroValue9
  t21 := Tryz.underlying21
  a21 := Tryz.isAgg21
  z21 := Tryz.sizeOf21
  v21 := Tryz.zeroValue21
  t46 := Tryz.underlying77
  a46 := Tryz.isAgg77
  z46 := Tryz.sizeOf77
  v46 := Tryz.zeroValue77 }
open Go.RowKit Go.Lib in
theorem Tryz.strings_ContainsRune_ascii (s : ByteArray) (r : Int) (w : World) (h0 : 0 ≤ r) (h1 : r < 128) :
    Calls Tryz.prog 92 #[.string s, .int .i32 r] w fun e w' => e = .returned (.bool (decide (0 ≤ Lib.indexByte s.data.toList r.toNat.toUInt8))) ∧ w' = w := Any.strings_ContainsRune_ascii Tryz.lays151 s r w h0 h1
def Tryz.lays227_ren : Go.Shelf.Ren := ⟨fun | 227 => 85 | n => n, fun | 9 => 9 | 116 => 125 | 4 => 4 | 0 => 0 | 3 => 3 | 5 => 5 | n => n, fun | n => n⟩
theorem Tryz.lays227 : Go.Proofs.Lays.n227 Tryz.prog Tryz.lays227_ren := {
  mixed := by kernel_rfl
  f227 := Tryz.func85.trans (congrArg some (by kernel_rfl))
  t0 := Tryz.underlying0
  a0 := Tryz.isAgg0
  z0 := Tryz.sizeOf0
  v0 := Tryz.zeroValue0
  t3 := Tryz.underlying3
  a3 := Tryz.isAgg3
  z3 := Tryz.sizeOf3
  v3 := Tryz.zeroValue3
  t4 := Tryz.underlying4
  a4 := Tryz.isAgg4
  z4 := Tryz.sizeOf4
  v4 := Tryz.zeroValue4
  t5 := Tryz.underlying5
  a5 := Tryz.isAgg5
  z5 := Tryz.sizeOf5
  v5 := Tryz.zeroValue5
  t9 := Tryz.underlying9
  a9 := Tryz.isAgg9
  z9 := Tryz.sizeOf9
  v9 := Tryz.zeroValue9
  t116 := Tryz.underlying125
  a116 := Tryz.isAgg125
  z116 := Tryz.sizeOf125 }
open Go.RowKit Go.Lib in
theorem Tryz.strings_makeASCIISet (hv116 : ∀ w, (zeroValue 125).run Tryz.prog w = .ok (.agg (Array.replicate 256 (.bool false))) w) (chars : ByteArray) (w : World) (hs : chars.size < 4294967281) (hascii : ∀ (j : Nat) b, chars.data.toList[j]? = some b → b.toNat < 128) :
    Calls Tryz.prog 85 #[.string chars] w fun e w' => e = .returned (.tuple #[.agg (Lib.setCells chars.data.toList), .bool true]) ∧ w' = w.alloc (.cells (Lib.setCells chars.data.toList) 125) := Any.strings_makeASCIISet Tryz.lays227 hv116 (by kernel_rfl) chars w hs hascii
def Tryz.lays228_ren : Go.Shelf.Ren := ⟨fun | 228 => 90 | n => n, fun | 124 => 129 | 5 => 5 | 4 => 4 | 0 => 0 | 116 => 125 | n => n, fun | n => n⟩
theorem Tryz.lays228 : Go.Proofs.Lays.n228 Tryz.prog Tryz.lays228_ren := {
  mixed := by kernel_rfl
  f228 := Tryz.func90.trans (congrArg some (by kernel_rfl))
  t0 := Tryz.underlying0
  a0 := Tryz.isAgg0
  z0 := Tryz.sizeOf0
  v0 := Tryz.zeroValue0
  t4 := Tryz.underlying4
  a4 := Tryz.isAgg4
  z4 := Tryz.sizeOf4
  v4 := Tryz.zeroValue4
  t5 := Tryz.underlying5
  a5 := Tryz.isAgg5
  z5 := Tryz.sizeOf5
  v5 := Tryz.zeroValue5
  t116 := Tryz.underlying125
  a116 := Tryz.isAgg125
  z116 := Tryz.sizeOf125
  t124 := Tryz.underlying129
  a124 := Tryz.isAgg129
  z124 := Tryz.sizeOf129
  v124 := Tryz.zeroValue129 }
open Go.RowKit Go.Lib in
theorem Tryz.asciiSet_contains (b : Nat) (x : UInt8) (v : Bool) (w : World) (hc : w.cell? ⟨b, x.toNat, none⟩ = some (.bool v)) :
    Calls Tryz.prog 90 #[.pointer (some ⟨b, 0, none⟩), .int .u8 x.toNat] w fun e w' => e = .returned (.bool v) ∧ w' = w := Any.asciiSet_contains Tryz.lays228 b x v w hc
def Tryz.lays264_ren : Go.Shelf.Ren := ⟨fun | 264 => 69 | n => n, fun | 53 => 108 | 46 => 77 | n => n, fun | n => n⟩
theorem Tryz.lays264 : Go.Proofs.Lays.n264 Tryz.prog Tryz.lays264_ren := {
  mixed := by kernel_rfl
  f264 := Tryz.func69.trans (congrArg some (by kernel_rfl))
  t46 := Tryz.underlying77
  a46 := Tryz.isAgg77
  z46 := Tryz.sizeOf77
  v46 := Tryz.zeroValue77
  t53 := Tryz.underlying108
  a53 := Tryz.isAgg108
  z53 := Tryz.sizeOf108
  v53 := Tryz.zeroValue108 }
open Go.RowKit Go.Lib in
theorem Tryz.bits_Mul64 (x y : Nat) (hx : x < 18446744073709551616) (hy : y < 18446744073709551616) (w : World) :
    Calls Tryz.prog 69 #[.int .u64 x, .int .u64 y] w fun e w' => e = .returned (.tuple #[.int .u64 ((x * y / 18446744073709551616 : Nat) : Int), .int .u64 ((x * y % 18446744073709551616 : Nat) : Int)]) ∧ w' = w := Any.bits_Mul64 Tryz.lays264 x y hx hy w
def Tryz.lays212_ren : Go.Shelf.Ren := ⟨fun | 212 => 51 | 263 => 68 | 264 => 69 | n => n, fun | 46 => 77 | 51 => 22 | 146 => 106 | 53 => 108 | 148 => 109 | n => n, fun | n => n⟩
theorem Tryz.lays212 : Go.Proofs.Lays.n212 Tryz.prog Tryz.lays212_ren := {
  mixed := by kernel_rfl
  f212 := Tryz.func51.trans (congrArg some (by kernel_rfl))
  f263 := Tryz.func68.trans (congrArg some (by kernel_rfl))
  f264 := Tryz.func69.trans (congrArg some (by kernel_rfl))
  t46 := Tryz.underlying77
  a46 := Tryz.isAgg77
  z46 := Tryz.sizeOf77
  v46 := Tryz.zeroValue77
  t51 := Tryz.underlying22
  a51 := Tryz.isAgg22
  z51 := Tryz.sizeOf22
  v51 := Tryz.zeroValue22
  t53 := Tryz.underlying108
  a53 := Tryz.isAgg108
  z53 := Tryz.sizeOf108
  v53 := Tryz.zeroValue108
  t146 := Tryz.underlying106
  a146 := Tryz.isAgg106
  z146 := Tryz.sizeOf106
  v146 := Tryz.zeroValue106
  t148 := Tryz.underlying109
  a148 := Tryz.isAgg109
  z148 := Tryz.sizeOf109
  v148 := Tryz.zeroValue109 }
open Go.RowKit Go.Lib in
theorem Tryz.bits_Mul (x y : Nat) (hx : x < 18446744073709551616) (hy : y < 18446744073709551616) (w : World) :
    Calls Tryz.prog 51 #[.int .u64 x, .int .u64 y] w fun e w' => e = .returned (.tuple #[.int .u64 ((x * y / 18446744073709551616 : Nat) : Int), .int .u64 ((x * y % 18446744073709551616 : Nat) : Int)]) ∧ w' = w := Any.bits_Mul Tryz.lays212 x y hx hy w
def Tryz.lays105_ren : Go.Shelf.Ren := ⟨fun | 105 => 34 | 212 => 51 | 99 => 52 | 165 => 53 | 166 => 54 | 170 => 55 | 169 => 56 | 263 => 68 | 264 => 69 | 206 => 70 | 240 => 71 | 241 => 72 | 276 => 78 | 277 => 79 | n => n, fun | 9 => 9 | 3 => 3 | 4 => 4 | 20 => 20 | 0 => 0 | 46 => 77 | 109 => 84 | 5 => 5 | 72 => 89 | 76 => 93 | 51 => 22 | 146 => 106 | 53 => 108 | 148 => 109 | 70 => 87 | 37 => 40 | 75 => 92 | 127 => 111 | 164 => 118 | 80 => 96 | n => n, fun | n => n⟩
theorem Tryz.lays105 : Go.Proofs.Lays.n105 Tryz.prog Tryz.lays105_ren := {
  mixed := by kernel_rfl
  f99 := Tryz.func52.trans (congrArg some (by kernel_rfl))
  f105 := Tryz.func34.trans (congrArg some (by kernel_rfl))
  f165 := Tryz.func53.trans (congrArg some (by kernel_rfl))
  f166 := Tryz.func54.trans (congrArg some (by kernel_rfl))
  f169 := Tryz.func56.trans (congrArg some (by kernel_rfl))
  f170 := Tryz.func55.trans (congrArg some (by kernel_rfl))
  f206 := Tryz.func70.trans (congrArg some (by kernel_rfl))
  f212 := Tryz.func51.trans (congrArg some (by kernel_rfl))
  f240 := Tryz.func71.trans (congrArg some (by kernel_rfl))
  f241 := Tryz.func72.trans (congrArg some (by kernel_rfl))
  f263 := Tryz.func68.trans (congrArg some (by kernel_rfl))
  f264 := Tryz.func69.trans (congrArg some (by kernel_rfl))
  f276 := Tryz.func78.trans (congrArg some (by kernel_rfl))
  f277 := Tryz.func79.trans (congrArg some (by kernel_rfl))
  t0 := Tryz.underlying0
  a0 := Tryz.isAgg0
  z0 := Tryz.sizeOf0
  v0 := Tryz.zeroValue0
  t3 := Tryz.underlying3
  a3 := Tryz.isAgg3
  z3 := Tryz.sizeOf3
  v3 := Tryz.zeroValue3
  t4 := Tryz.underlying4
  a4 := Tryz.isAgg4
  z4 := Tryz.sizeOf4
  v4 := Tryz.zeroValue4
  t5 := Tryz.underlying5
  a5 := Tryz.isAgg5
  z5 := Tryz.sizeOf5
  v5 := Tryz.zeroValue5
  t9 := Tryz.underlying9
  a9 := Tryz.isAgg9
  z9 := Tryz.sizeOf9
  v9 := Tryz.zeroValue9
  t20 := Tryz.underlying20
  a20 := Tryz.isAgg20
  z20 := Tryz.sizeOf20
  v20 := Tryz.zeroValue20
  t37 := Tryz.underlying40
  a37 := Tryz.isAgg40
  z37 := Tryz.sizeOf40
  v37 := Tryz.zeroValue40
  t46 := Tryz.underlying77
  a46 := Tryz.isAgg77
  z46 := Tryz.sizeOf77
  v46 := Tryz.zeroValue77
  t51 := Tryz.underlying22
  a51 := Tryz.isAgg22
  z51 := Tryz.sizeOf22
  v51 := Tryz.zeroValue22
  t53 := Tryz.underlying108
  a53 := Tryz.isAgg108
  z53 := Tryz.sizeOf108
  v53 := Tryz.zeroValue108
  t70 := Tryz.underlying87
  a70 := Tryz.isAgg87
  z70 := Tryz.sizeOf87
  v70 := Tryz.zeroValue87
  t72 := Tryz.underlying89
  a72 := Tryz.isAgg89
  z72 := Tryz.sizeOf89
  v72 := Tryz.zeroValue89
  t75 := Tryz.underlying92
  a75 := Tryz.isAgg92
  z75 := Tryz.sizeOf92
  v75 := Tryz.zeroValue92
  t76 := Tryz.underlying93
  a76 := Tryz.isAgg93
  z76 := Tryz.sizeOf93
  v76 := Tryz.zeroValue93
  t109 := Tryz.underlying84
  a109 := Tryz.isAgg84
  z109 := Tryz.sizeOf84
  v109 := Tryz.zeroValue84
  t127 := Tryz.underlying111
  a127 := Tryz.isAgg111
  z127 := Tryz.sizeOf111
  v127 := Tryz.zeroValue111
  t146 := Tryz.underlying106
  a146 := Tryz.isAgg106
  z146 := Tryz.sizeOf106
  v146 := Tryz.zeroValue106
  t148 := Tryz.underlying109
  a148 := Tryz.isAgg109
  z148 := Tryz.sizeOf109
  v148 := Tryz.zeroValue109
  t164 := Tryz.underlying118
  a164 := Tryz.isAgg118
  z164 := Tryz.sizeOf118
  v164 := Tryz.zeroValue118 }
theorem Tryz.Builder_Extra_105 : Builder.Extra Tryz.prog Tryz.lays105_ren := {
  sizeBuilder := by kernel_rfl
  liesBuilder := by kernel_rfl
  t5 := Tryz.underlying5
  a5 := Tryz.isAgg5
  z5 := Tryz.sizeOf5
  v5 := Tryz.zeroValue5
  infoByte := by kernel_rfl
  cellsByte := by kernel_rfl
  sizeByte := by kernel_rfl
  neB5 := by decide }
open Go.RowKit Go.Lib in
theorem Tryz.strings_Repeat_main (s : ByteArray) (c : Nat) (w : World) (hc2 : 2 ≤ c) (hc : c ≤ 9223372036854775807) (hlen : s.size * c ≤ 140737488355328) (h0 : 0 < s.size) :
    Calls Tryz.prog 34 #[.string s, .int .i64 c] w fun e w' => e = .returned (.string ⟨(Lib.repeatL s.data.toList c).toArray⟩) ∧ Below w.heap.size w w' := Any.strings_Repeat_main Tryz.lays105 Tryz.Builder_Extra_105 s c w hc2 hc hlen h0
open Go.RowKit Go.Lib in
theorem Tryz.strings_Repeat_zero (s : ByteArray) (w : World) :
    Calls Tryz.prog 34 #[.string s, .int .i64 0] w fun e w' => e = .returned (.string ⟨#[]⟩) ∧ w' = w := Any.strings_Repeat_zero Tryz.lays105 s w
open Go.RowKit Go.Lib in
theorem Tryz.strings_Repeat_one (s : ByteArray) (w : World) :
    Calls Tryz.prog 34 #[.string s, .int .i64 1] w fun e w' => e = .returned (.string s) ∧ w' = w := Any.strings_Repeat_one Tryz.lays105 s w
open Go.RowKit Go.Lib in
theorem Tryz.strings_Repeat_empty (s : ByteArray) (c : Nat) (w : World) (hc2 : 2 ≤ c) (hc : c ≤ 9223372036854775807) (h0 : s.size = 0) :
    Calls Tryz.prog 34 #[.string s, .int .i64 c] w fun e w' => e = .returned (.string ⟨#[]⟩) ∧ w' = w := Any.strings_Repeat_empty Tryz.lays105 s c w hc2 hc h0
open Go.RowKit Go.Lib in
theorem Tryz.strings_Repeat_negative (s : ByteArray) (c : Int) (w : World) (hc : c < 0) :
    Calls Tryz.prog 34 #[.string s, .int .i64 c] w fun e w' => e = .panicked [{ v := repeatPanic Tryz.lays105_ren "strings: negative Repeat count", recovered := false }] ∧ w' = w := Any.strings_Repeat_negative Tryz.lays105 s c w hc
open Go.RowKit Go.Lib in
theorem Tryz.strings_Repeat_overflow (s : ByteArray) (c : Nat) (w : World) (hc : c ≤ 9223372036854775807) (hs : s.size ≤ 9223372036854775807) (hbig : 9223372036854775807 < s.size * c) :
    Calls Tryz.prog 34 #[.string s, .int .i64 c] w fun e w' => e = .panicked [{ v := repeatPanic Tryz.lays105_ren "strings: Repeat output length overflow", recovered := false }] ∧ w' = w := Any.strings_Repeat_overflow Tryz.lays105 s c w hc hs hbig
open Go.RowKit Go.Lib in
theorem Tryz.strings_Repeat (s : ByteArray) (c : Nat) (w : World) (hc : c ≤ 9223372036854775807) (hlen : s.size * c ≤ 140737488355328) :
    Calls Tryz.prog 34 #[.string s, .int .i64 c] w fun e w' => e = .returned (.string ⟨(Lib.repeatL s.data.toList c).toArray⟩) ∧ Below w.heap.size w w' := Any.strings_Repeat Tryz.lays105 Tryz.Builder_Extra_105 s c w hc hlen
def Tryz.lays260_ren : Go.Shelf.Ren := ⟨fun | 260 => 94 | n => n, fun | 9 => 9 | 21 => 21 | 3 => 3 | 4 => 4 | 5 => 5 | 119 => 135 | 0 => 0 | 46 => 77 | 139 => 138 | 138 => 137 | n => n, fun | 3 => 1 | 4 => 2 | n => n⟩
theorem Tryz.lays260 : Go.Proofs.Lays.n260 Tryz.prog Tryz.lays260_ren := {
  mixed := by kernel_rfl
  f260 := Tryz.func94.trans (congrArg some (by kernel_rfl))
  t0 := Tryz.underlying0
  a0 := Tryz.isAgg0
  z0 := Tryz.sizeOf0
  v0 := Tryz.zeroValue0
  t3 := Tryz.underlying3
  a3 := Tryz.isAgg3
  z3 := Tryz.sizeOf3
  v3 := Tryz.zeroValue3
  t4 := Tryz.underlying4
  a4 := Tryz.isAgg4
  z4 := Tryz.sizeOf4
  v4 := Tryz.zeroValue4
  t5 := Tryz.underlying5
  a5 := Tryz.isAgg5
  z5 := Tryz.sizeOf5
  v5 := Tryz.zeroValue5
  t9 := Tryz.underlying9
  a9 := Tryz.isAgg9
  z9 := Tryz.sizeOf9
  v9 := Tryz.zeroValue9
  t21 := Tryz.underlying21
  a21 := Tryz.isAgg21
  z21 := Tryz.sizeOf21
  v21 := Tryz.zeroValue21
  t46 := Tryz.underlying77
  a46 := Tryz.isAgg77
  z46 := Tryz.sizeOf77
  v46 := Tryz.zeroValue77
  t119 := Tryz.underlying135
  a119 := Tryz.isAgg135
  z119 := Tryz.sizeOf135
  t138 := Tryz.underlying137
  a138 := Tryz.isAgg137
  z138 := Tryz.sizeOf137
  v138 := Tryz.zeroValue137
  t139 := Tryz.underlying138
  a139 := Tryz.isAgg138
  z139 := Tryz.sizeOf138
  v139 := Tryz.zeroValue138
  g3 := by kernel_rfl
  g4 := by kernel_rfl }
open Go.RowKit Go.Lib in
theorem Tryz.utf8_decodeRuneInStringSlow (s : ByteArray) (w : World) (hT : Lib.Utf8Tabs 1 2 w) :
    Calls Tryz.prog 94 #[.string s] w fun e w' => e = .returned (.tuple #[.int .i32 (Lib.decodeGo s).1, .int .i64 (Lib.decodeGo s).2]) ∧ Below w.heap.size w w' := Any.utf8_decodeRuneInStringSlow Tryz.lays260 s w hT
open Go.RowKit Go.Lib in
theorem Tryz.utf8_DecodeRuneInString (s : ByteArray) (w : World) (hT : Lib.Utf8Tabs 1 2 w) :
    Calls Tryz.prog 91 #[.string s] w fun e w' => e = .returned (.tuple #[.int .i32 (Lib.decodeGo s).1, .int .i64 (Lib.decodeGo s).2]) ∧ Below w.heap.size w w' := Any.utf8_DecodeRuneInString Tryz.lays197 s w hT
def Tryz.lays271_ren : Go.Shelf.Ren := ⟨fun | 271 => 93 | 120 => 96 | 197 => 91 | 260 => 94 | n => n, fun | 9 => 9 | 21 => 21 | 3 => 3 | 4 => 4 | 5 => 5 | 105 => 131 | 119 => 135 | 0 => 0 | 46 => 77 | 139 => 138 | 138 => 137 | n => n, fun | 3 => 1 | 4 => 2 | n => n⟩
theorem Tryz.lays271 : Go.Proofs.Lays.n271 Tryz.prog Tryz.lays271_ren := {
  mixed := by kernel_rfl
  f120 := Tryz.func96.trans (congrArg some (by kernel_rfl))
  f197 := Tryz.func91.trans (congrArg some (by kernel_rfl))
  f260 := Tryz.func94.trans (congrArg some (by kernel_rfl))
  f271 := Tryz.func93.trans (congrArg some (by kernel_rfl))
  t0 := Tryz.underlying0
  a0 := Tryz.isAgg0
  z0 := Tryz.sizeOf0
  v0 := Tryz.zeroValue0
  t3 := Tryz.underlying3
  a3 := Tryz.isAgg3
  z3 := Tryz.sizeOf3
  v3 := Tryz.zeroValue3
  t4 := Tryz.underlying4
  a4 := Tryz.isAgg4
  z4 := Tryz.sizeOf4
  v4 := Tryz.zeroValue4
  t5 := Tryz.underlying5
  a5 := Tryz.isAgg5
  z5 := Tryz.sizeOf5
  v5 := Tryz.zeroValue5
  t9 := Tryz.underlying9
  a9 := Tryz.isAgg9
  z9 := Tryz.sizeOf9
  v9 := Tryz.zeroValue9
  t21 := Tryz.underlying21
  a21 := Tryz.isAgg21
  z21 := Tryz.sizeOf21
  v21 := Tryz.zeroValue21
  t46 := Tryz.underlying77
  a46 := Tryz.isAgg77
  z46 := Tryz.sizeOf77
  v46 := Tryz.zeroValue77
  t105 := Tryz.underlying131
  a105 := Tryz.isAgg131
  z105 := Tryz.sizeOf131
  v105 := Tryz.zeroValue131
  t119 := Tryz.underlying135
  a119 := Tryz.isAgg135
  z119 := Tryz.sizeOf135
  t138 := Tryz.underlying137
  a138 := Tryz.isAgg137
  z138 := Tryz.sizeOf137
  v138 := Tryz.zeroValue137
  t139 := Tryz.underlying138
  a139 := Tryz.isAgg138
  z139 := Tryz.sizeOf138
  v139 := Tryz.zeroValue138
  g3 := by kernel_rfl
  g4 := by kernel_rfl }
open Go.RowKit Go.Lib in
theorem Tryz.utf8_DecodeLastRuneInString (s : ByteArray) (w : World) (hs : s.size ≤ 9223372036854775807) (hT : Lib.Utf8Tabs 1 2 w) :
    Calls Tryz.prog 93 #[.string s] w fun e w' => e = .returned (.tuple #[.int .i32 (Lib.decodeLastL s.data.toList).1, .int .i64 (Lib.decodeLastL s.data.toList).2]) ∧ Below w.heap.size w w' := Any.utf8_DecodeLastRuneInString Tryz.lays271 s w hs hT
end Go.Proofs

namespace Go.Proofs.YtncnildpbccpaaaGreatDoor
open Go.RowKit

/-- A list's bytes as a text. -/
def ba (l : List UInt8) : ByteArray := ⟨l.toArray⟩
theorem ba_list (l : List UInt8) : (ba l).data.toList = l := rfl
theorem ba_size (l : List UInt8) : (ba l).size = l.length := rfl
theorem ba_of (s : ByteArray) : s = ba s.data.toList := by cases s; rfl
theorem ba_take (l : List UInt8) (n : Nat) : (ba l).extract 0 n = ba (l.take n) := by
  unfold ba
  have h : ((⟨l.toArray⟩ : ByteArray).extract 0 n).data.toList = l.take n := by simp [ByteArray.data_extract, List.extract_eq_take_drop]
  rw [ba_of ((⟨l.toArray⟩ : ByteArray).extract 0 n), h]
  rfl
theorem ba_drop (l : List UInt8) (n : Nat) : (ba l).extract n (ba l).size = ba (l.drop n) := by
  unfold ba
  have h : ((⟨l.toArray⟩ : ByteArray).extract n (⟨l.toArray⟩ : ByteArray).size).data.toList = l.drop n := by
    rw [ByteArray.data_extract, Array.toList_extract, List.extract_eq_take_drop]
    show (l.drop n).take (l.length - n) = l.drop n
    rw [List.take_of_length_le (by simp)]
  rw [ba_of ((⟨l.toArray⟩ : ByteArray).extract n (⟨l.toArray⟩ : ByteArray).size), h]
  rfl

theorem takeOf_in (l : List UInt8) (n : Nat) (h : n ≤ l.length) : takeOf (some (ba l)) (n : Int) = (ba (l.take n), some (ba (l.drop n))) := by
  unfold takeOf
  simp only []
  rw [if_pos ⟨by omega, by rw [ba_size]; omega⟩, Int.toNat_natCast, ba_take, ba_drop]
theorem takeOf_out (l : List UInt8) (n : Nat) (h : l.length < n) : takeOf (some (ba l)) (n : Int) = (nobytes, none) := by
  unfold takeOf
  simp only []
  rw [if_neg (by rw [ba_size]; omega)]

theorem rbyte_cons (base r : Nat) (k : UInt8) (t : List UInt8) (w : World) (h : Rd base r (some (ba (k :: t))) w) (hs : t.length ≤ 90000) :
    Calls Tryz.prog 60 #[.pointer (some ⟨r, 0, none⟩)] w fun e w' => e = .returned (.int .i64 k.toNat) ∧ Rd base r (some (ba t)) w' ∧ w.grownBy w' (some r) := by
  have e := takeOf_in (k :: t) 1 (by simp)
  have e' : takeOf (some (ba (k :: t))) 1 = (ba [k], some (ba t)) := e
  refine (RByte_any base r _ w h (by show (k :: t).length ≤ 100000; simp; omega)).mono ?_
  rintro e w' ⟨he, hr, hg⟩
  rw [e'] at he hr
  exact ⟨by rw [he]; show Ending.returned (.int .i64 ((num [k] : Nat) : Int)) = _; simp [num], hr, hg⟩

theorem rbyte_nil (base r : Nat) (w : World) (h : Rd base r (some (ba [])) w) :
    Calls Tryz.prog 60 #[.pointer (some ⟨r, 0, none⟩)] w fun e w' => e = .returned (.int .i64 0) ∧ Rd base r none w' ∧ w.grownBy w' (some r) := by
  have e := takeOf_out [] 1 (by simp)
  have e' : takeOf (some (ba [])) 1 = (nobytes, none) := e
  refine (RByte_any base r _ w h (by show (0 : Nat) ≤ 100000; omega)).mono ?_
  rintro e w' ⟨he, hr, hg⟩
  rw [e'] at he hr
  exact ⟨he, hr, hg⟩

theorem rtake_in (base r : Nat) (l : List UInt8) (n : Nat) (w : World) (h : Rd base r (some (ba l)) w) (hs : l.length ≤ 90000) (hn : n ≤ l.length) :
    Calls Tryz.prog 66 #[.pointer (some ⟨r, 0, none⟩), .int .i64 n] w fun e w' => e = .returned (.string (ba (l.take n))) ∧ Rd base r (some (ba (l.drop n))) w' ∧ w.grownBy w' (some r) := by
  refine (take_any base r _ n w h (by show l.length ≤ 100000; omega)).mono ?_
  rintro e w' ⟨he, hr, hg⟩
  rw [takeOf_in l n hn] at he hr
  exact ⟨he, hr, hg⟩

theorem rrest (base r : Nat) (l : List UInt8) (w : World) (h : Rd base r (some (ba l)) w) (hs : l.length ≤ 90000) :
    Calls Tryz.prog 67 #[.pointer (some ⟨r, 0, none⟩)] w fun e w' => e = .returned (.string (ba l)) ∧ Rd base r (some (ba [])) w' ∧ w.grownBy w' (some r) := by
  refine (Rest_any base r _ w h (by show l.length ≤ 100000; omega)).mono ?_
  rintro e w' ⟨he, hr, hg⟩
  have e1 : takeOf (some (ba l)) ((((some (ba l)).getD nobytes).size : Nat) : Int) = (ba l, some (ba [])) := by
    show takeOf (some (ba l)) ((l.length : Nat) : Int) = _
    rw [takeOf_in l l.length (Nat.le_refl _), List.take_length, List.drop_length]
  rw [e1] at he hr
  exact ⟨he, hr, hg⟩

theorem Rd.draw {base r : Nat} {o : Option ByteArray} {w : World} (h : Rd base r o w) : Rd base r o w.drew := ⟨h.low, h.cells⟩

/-- A reader of options: what is left, and what was read. -/
structure Ps (base p r : Nat) (o : Option ByteArray) (l : List Opt) (w : World) : Prop where
  low : base ≤ p
  ne : p ≠ r
  cells : ∃ ao cap, w.heap[p]? = some (.cells #[.pointer (some ⟨r, 0, none⟩), .slice ao l.length cap] 117 (0, 0)) ∧ OptBuf base ao cap l w
  rd : Rd base r o w

theorem OptBuf.apart {base : Nat} {ao : Option Addr} {cap b : Nat} {l : List Opt} {w : World} {cs : Array Value} {t : TypeId} (h : OptBuf base ao cap l w) (hb : w.heap[b]? = some (.cells cs t (0, 0))) (ht : t ≠ 56) : Value.ownBlock (.slice ao l.length cap) ≠ some b := by
  intro e
  rcases h.2 with ⟨hv, _⟩ | ⟨g, cap', cur, hv, _, hg, _⟩
  · rw [hv] at e; cases e
  · rw [hv] at e
    cases e
    rw [hg] at hb
    simp at hb
    exact ht hb.2.symm

theorem Ps.read {base p r : Nat} {o o' : Option ByteArray} {l : List Opt} {w w' : World} (h : Ps base p r o l w) (hg : w.grownBy w' (some r)) (hr : Rd base r o' w') : Ps base p r o' l w' := by
  obtain ⟨low, ne, ⟨ao, cap, hc, hb⟩, rd⟩ := h
  refine ⟨low, ne, ⟨ao, cap, ?_, ?_⟩, hr⟩
  · rw [hg.block p (lt_of_block hc) (by intro e; cases e; exact ne rfl)]; exact hc
  · exact World.ownsRow.kept hb hg (.inr (hb.apart rd.cells (by decide)))

theorem Ps.at {base p r : Nat} {o : Option ByteArray} {l : List Opt} {w : World} (h : Ps base p r o l w) : w.cell? ⟨p, 0, none⟩ = some (.pointer (some ⟨r, 0, none⟩)) ∧ w.frozen? ⟨p, 1, none⟩ = false ∧ p < w.heap.size ∧ ∃ ao cap, w.cell? ⟨p, 1, none⟩ = some (.slice ao l.length cap) ∧ OptBuf base ao cap l w := by
  obtain ⟨low, ne, ⟨ao, cap, hc, hb⟩, rd⟩ := h
  exact ⟨by simp [World.cell?, hc], by simp [World.frozen?, hc], lt_of_block hc, ao, cap, by simp [World.cell?, hc], hb⟩

theorem Ps.below {base p r : Nat} {o : Option ByteArray} {l : List Opt} {w w' : World} (h : Ps base p r o l w) (hg : w.grownBy w' (some r)) : Below base w w' :=
  grown_below hg h.rd.low (by have := lt_of_block h.rd.cells; have := h.rd.low; omega)

theorem dropWhile_nil (p : UInt8 → Bool) (l : List UInt8) : l.dropWhile p = [] ↔ ∀ x ∈ l, p x = true := by
  induction l with
  | nil => simp
  | cons a r ih =>
    rw [List.dropWhile_cons]
    by_cases h : p a = true
    · rw [if_pos h, ih]; simp [h]
    · rw [if_neg h]; simp [h]

theorem dropWhile_all (p : UInt8 → Bool) (l : List UInt8) (h : ∀ x ∈ l.dropWhile p, p x = true) : ∀ x ∈ l, p x = true := by
  induction l with
  | nil => simp
  | cons a r ih =>
    rw [List.dropWhile_cons] at h
    by_cases ha : p a = true
    · rw [if_pos ha] at h
      intro x hx
      rcases List.mem_cons.1 hx with rfl | hx
      · exact ha
      · exact ih h x hx
    · rw [if_neg ha] at h
      exact h

theorem all_zero (l : List UInt8) : (Lib.trimB l 0).isEmpty = l.all (· == 0) := by
  rw [Bool.eq_iff_iff, List.isEmpty_iff, List.all_eq_true]
  unfold Lib.trimB Lib.trimLeftB Lib.trimRightB
  rw [dropWhile_nil]
  constructor
  · intro h x hx
    exact dropWhile_all _ l.reverse (fun y hy => h y (List.mem_reverse.2 hy)) x (List.mem_reverse.2 hx)
  · intro h x hx
    rw [(dropWhile_nil _ l.reverse).2 (fun y hy => h y (List.mem_reverse.1 hy))] at hx
    simp at hx

set_option maxHeartbeats 400000 in
theorem ending_any (base p r : Nat) (t : List UInt8) (l : List Opt) (w : World) (h : Ps base p r (some (ba t)) l w) (ht : t.length ≤ 100) :
    Calls Tryz.prog 80 #[.pointer (some ⟨p, 0, none⟩)] w fun e w' => e = .returned (.int .i64 (if t.all (· == 0) then 0 else 3)) ∧ Ps base p r (some (ba [])) l w' ∧ Below base w w' := by
  obtain ⟨c0, f1, hp, ao, cap, c1, hbuf⟩ := h.at
  have Hq := Lib.hid (all_zero t)
  have Hps := Lib.hid h
  obtain ⟨z, hz⟩ : ∃ z : Int, (if t.all (· == 0) then (0 : Int) else 3) = z := ⟨_, rfl⟩
  have Hz := Lib.hid hz
  rw [hz]
  clear hz
  clear hbuf
  go_enter Tryz.func80, Tryz.ntmps80
  clear h
  go_wp2_with fail
  refine (rrest base r t w Hps.out.rd (by omega)).mono ?_
  rintro e w1 ⟨rfl, hr1, hg1⟩
  have hps1 := Hps.out.read hg1 hr1
  have hb1 := Hps.out.below hg1
  clear hg1 hr1 c0 c1 f1
  go_wp2_with fail
  refine (Tryz.strings_Trim_one (ba t) 0 (by decide) w1 (by rw [ba_size]; omega)).mono ?_
  rintro e w2 ⟨rfl, hw2⟩
  have hps2 : Ps base p r (some (ba [])) l w2 := by
    rcases hw2 with rfl | rfl
    · exact hps1
    · exact ⟨hps1.low, hps1.ne, hps1.cells, ⟨hps1.rd.low, hps1.rd.cells⟩⟩
  have hb2 : Below base w w2 := by
    rcases hw2 with rfl | rfl
    · exact hb1
    · exact hb1.drew
  clear hw2 hps1 hb1
  have hq2 : (⟨(Lib.trimB (ba t).data.toList 0).toArray⟩ : ByteArray).toList.isEmpty = t.all (· == 0) := by
    rw [Lib.toList_data]; exact Hq.out
  generalize (⟨(Lib.trimB (ba t).data.toList 0).toArray⟩ : ByteArray) = u at *
  generalize ht : t.all (· == 0) = q at *
  clear ht
  cases q with
  | true =>
    have hq3 : u = ⟨#[]⟩ := O.empty_of_size u (by rw [isEmpty_size] at hq2; exact of_decide_eq_true hq2)
    clear hq2
    subst hq3
    go_wp2
    go_ret
    exact ⟨ret_i64 (by rw [← Hz.out]; rfl), hps2, hb2⟩
  | false =>
    have hq3 : (!u.toList.isEmpty) = true := by rw [hq2]; rfl
    have hq4 : ¬ u.toList = [] := fun e => by rw [e] at hq2; simp at hq2
    go_wp2
    go_ret
    exact ⟨ret_i64 (by rw [← Hz.out]; rfl), hps2, hb2⟩

theorem Ps.back {base p r : Nat} {o : Option ByteArray} {l m : List Opt} {w w' : World} {ao ao' : Option Addr} {cap cap' : Nat} (h : Ps base p r o l w) (hbuf : OptBuf base ao cap l w) (hg : w.grownBy w' (Value.ownBlock (.slice ao l.length cap))) (hbuf' : OptBuf base ao' cap' m w') :
    Ps base p r o m (w'.setCell ⟨p, 1, none⟩ (.slice ao' m.length cap')) ∧ Below base w (w'.setCell ⟨p, 1, none⟩ (.slice ao' m.length cap')) := by
  obtain ⟨low, ne, ⟨ao2, cap2, hc, hb⟩, rd⟩ := h
  have h1 : w'.heap[p]? = some (.cells #[.pointer (some ⟨r, 0, none⟩), .slice ao2 l.length cap2] 117 (0, 0)) :=
    (hg.block p (lt_of_block hc) (fun e => hbuf.apart hc (by decide) e.symm)).trans hc
  have h2 : w'.heap[r]? = _ := (hg.block r (lt_of_block rd.cells) (fun e => hbuf.apart rd.cells (by decide) e.symm)).trans rd.cells
  have hp := lt_of_block hc
  refine ⟨⟨low, ne, ⟨ao', cap', rd_set1 h1, ownsRow_setCell_other hbuf' (hbuf'.apart h1 (by decide)) _⟩, ⟨rd.low, ?_⟩⟩, ?_⟩
  · rw [Below.heap_setCell _ _ _ _ (fun e => ne e.symm)]; exact h2
  · exact ((Below.refl base w).grown hg (by omega) (fun k hk => (hbuf.lt k hk).1)).setCell low _

theorem Ps.old {base p r : Nat} {o : Option ByteArray} {l : List Opt} {w w' : World} {ao : Option Addr} {cap : Nat} (h : Ps base p r o l w) (hbuf : OptBuf base ao cap l w) (hg : w.grownBy w' (Value.ownBlock (.slice ao l.length cap))) :
    w'.frozen? ⟨p, 1, none⟩ = false ∧ ∃ v, w'.cell? ⟨p, 1, none⟩ = some v := by
  obtain ⟨low, ne, ⟨ao2, cap2, hc, hb⟩, rd⟩ := h
  have h1 : w'.heap[p]? = some (.cells #[.pointer (some ⟨r, 0, none⟩), .slice ao2 l.length cap2] 117 (0, 0)) :=
    (hg.block p (lt_of_block hc) (fun e => hbuf.apart hc (by decide) e.symm)).trans hc
  exact ⟨by simp [World.frozen?, h1], _, by simp [World.cell?, h1]; rfl⟩

theorem Ps.keep {base p r : Nat} {o : Option ByteArray} {l : List Opt} {w w' : World} {ao : Option Addr} {cap : Nat} (h : Ps base p r o l w) (hbuf : OptBuf base ao cap l w) (hc : w.cell? ⟨p, 1, none⟩ = some (.slice ao l.length cap)) (hg : w.grownBy w' (some r)) :
    OptBuf base ao cap l w' ∧ w'.cell? ⟨p, 1, none⟩ = some (.slice ao l.length cap) ∧ w'.cell? ⟨p, 0, none⟩ = some (.pointer (some ⟨r, 0, none⟩)) := by
  have hne : some p ≠ some r := fun e => by cases e; exact h.ne rfl
  exact ⟨World.ownsRow.kept hbuf hg (.inr (hbuf.apart h.rd.cells (by decide))), hg.cell hc hne, hg.cell h.at.1 hne⟩

theorem Ps.alloc {base p r : Nat} {o : Option ByteArray} {l : List Opt} {w : World} (h : Ps base p r o l w) (x : Obj) : Ps base p r o l (w.alloc x) := by
  obtain ⟨low, ne, ⟨ao, cap, hc, hb⟩, rd⟩ := h
  exact ⟨low, ne, ⟨ao, cap, (Below.heap_alloc w x p (lt_of_block hc)).trans hc, hb.alloc x⟩, ⟨rd.low, (Below.heap_alloc w x r (lt_of_block rd.cells)).trans rd.cells⟩⟩

theorem Ps.draw {base p r : Nat} {o : Option ByteArray} {l : List Opt} {w : World} (h : Ps base p r o l w) : Ps base p r o l w.drew :=
  ⟨h.low, h.ne, h.cells, ⟨h.rd.low, h.rd.cells⟩⟩

set_option maxHeartbeats 400000 in
theorem long_none (base p r : Nat) (k : Int) (l : List Opt) (w : World) (h : Ps base p r (some (ba [])) l w) :
    Calls Tryz.prog 81 #[.pointer (some ⟨p, 0, none⟩), .int .i64 k] w fun e w' => e = .returned (.int .i64 2) ∧ Below base w w' := by
  obtain ⟨c0, f1, hp, ao, cap, c1, hbuf⟩ := h.at
  have Hps := Lib.hid h
  clear hbuf
  go_enter Tryz.func81, Tryz.ntmps81
  clear h
  go_wp2_with fail
  refine (rbyte_nil base r w Hps.out.rd).mono ?_
  rintro e w1 ⟨rfl, hr1, hg1⟩
  have hps1 := Hps.out.read hg1 hr1
  have hb1 := Hps.out.below hg1
  obtain ⟨d0, _, _, _, _, _, _⟩ := hps1.at
  clear hg1 c0 c1 f1
  go_wp2_with fail
  refine (Ok_any base r none w1 hr1).mono ?_
  rintro e w2 ⟨rfl, rfl⟩
  go_wp2
  go_ret
  exact ⟨rfl, hb1⟩

set_option maxHeartbeats 400000 in
theorem long_short (base p r : Nat) (k : Int) (n : UInt8) (t : List UInt8) (l : List Opt) (w : World) (h : Ps base p r (some (ba (n :: t))) l w) (ht : t.length ≤ 100) (hn : 2 + t.length < n.toNat) :
    Calls Tryz.prog 81 #[.pointer (some ⟨p, 0, none⟩), .int .i64 k] w fun e w' => e = .returned (.int .i64 2) ∧ Below base w w' := by
  obtain ⟨c0, f1, hp, ao, cap, c1, hbuf⟩ := h.at
  have Hps := Lib.hid h
  clear hbuf
  have hn255 := n.toNat_lt
  go_enter Tryz.func81, Tryz.ntmps81
  clear h
  go_wp2_with fail
  refine (rbyte_cons base r n t w Hps.out.rd (by omega)).mono ?_
  rintro e w1 ⟨rfl, hr1, hg1⟩
  have hps1 := Hps.out.read hg1 hr1
  have hb1 := Hps.out.below hg1
  obtain ⟨d0, _, _, _, _, _, _⟩ := hps1.at
  clear hg1 c0 c1 f1
  generalize n.toNat = nn at *
  go_wp2_with fail
  refine (Ok_any base r _ w1 hr1).mono ?_
  rintro e w2 ⟨rfl, rfl⟩
  simp only [Option.isSome_some]
  go_wp2_with fail
  refine (Left_any base r _ w1 hr1).mono ?_
  rintro e w2 ⟨rfl, rfl⟩
  simp only [Option.getD_some, ba_size]
  go_wp2
  go_ret
  exact ⟨rfl, hb1⟩

set_option maxHeartbeats 400000 in
theorem long_form (base p r : Nat) (k : Int) (n : UInt8) (t : List UInt8) (l : List Opt) (w : World) (h : Ps base p r (some (ba (n :: t))) l w) (ht : t.length ≤ 100) (hn : n.toNat ≤ 2 + t.length) (hn2 : n.toNat < 2) :
    Calls Tryz.prog 81 #[.pointer (some ⟨p, 0, none⟩), .int .i64 k] w fun e w' => e = .returned (.int .i64 3) ∧ Below base w w' := by
  obtain ⟨c0, f1, hp, ao, cap, c1, hbuf⟩ := h.at
  have Hps := Lib.hid h
  clear hbuf
  have hn255 := n.toNat_lt
  go_enter Tryz.func81, Tryz.ntmps81
  clear h
  go_wp2_with fail
  refine (rbyte_cons base r n t w Hps.out.rd (by omega)).mono ?_
  rintro e w1 ⟨rfl, hr1, hg1⟩
  have hps1 := Hps.out.read hg1 hr1
  have hb1 := Hps.out.below hg1
  obtain ⟨d0, _, _, _, _, _, _⟩ := hps1.at
  clear hg1 c0 c1 f1
  generalize n.toNat = nn at *
  go_wp2_with fail
  refine (Ok_any base r _ w1 hr1).mono ?_
  rintro e w2 ⟨rfl, rfl⟩
  simp only [Option.isSome_some]
  go_wp2_with fail
  refine (Left_any base r _ w1 hr1).mono ?_
  rintro e w2 ⟨rfl, rfl⟩
  simp only [Option.getD_some, ba_size]
  go_wp2
  go_ret
  exact ⟨rfl, hb1⟩

set_option maxHeartbeats 2000000 in
theorem long_ok (base p r : Nat) (k : Int) (n : UInt8) (t : List UInt8) (l : List Opt) (w : World) (h : Ps base p r (some (ba (n :: t))) l w) (ht : t.length ≤ 100) (hl : l.length ≤ 1000) (hn : n.toNat ≤ 2 + t.length) (hn2 : 2 ≤ n.toNat) :
    Calls Tryz.prog 81 #[.pointer (some ⟨p, 0, none⟩), .int .i64 k] w fun e w' => e = .returned (.int .i64 0) ∧ Ps base p r (some (ba (t.drop (n.toNat - 2)))) (l ++ [⟨k, ba (t.take (n.toNat - 2))⟩]) w' ∧ Below base w w' := by
  obtain ⟨c0, f1, hp, ao, cap, c1, hbuf⟩ := h.at
  have Hps := Lib.hid h
  have hn255 := n.toNat_lt
  go_enter Tryz.func81, Tryz.ntmps81
  clear h
  go_wp2_with fail
  refine (rbyte_cons base r n t w Hps.out.rd (by omega)).mono ?_
  rintro e w1 ⟨rfl, hr1, hg1⟩
  have hps1 := Hps.out.read hg1 hr1
  have hb1 := Hps.out.below hg1
  clear hg1 c0 c1 f1 hbuf
  obtain ⟨d0, df, dp, ao, cap, d1, hbuf⟩ := hps1.at
  generalize hnn : n.toNat = nn at *
  have Hnn := Lib.hid hnn
  clear hnn
  go_wp2_with fail
  refine (Ok_any base r _ w1 hr1).mono ?_
  rintro e w2 ⟨rfl, rfl⟩
  simp only [Option.isSome_some]
  go_wp2_with fail
  refine (Left_any base r _ w1 hr1).mono ?_
  rintro e w2 ⟨rfl, rfl⟩
  simp only [Option.getD_some, ba_size]
  obtain ⟨m, hm⟩ : ∃ m : Nat, (nn : Int) - 2 = (m : Int) := ⟨nn - 2, by omega⟩
  have hmn : m = nn - 2 := by omega
  have Hm := Lib.hid hmn
  have hmt : m ≤ t.length := by omega
  have j1 : IntKind.i64.wrap (m : Int) = (m : Int) := IntWalk.i64_in _ (by omega)
  clear hmn
  have Hps1 := Lib.hid hps1
  have Hbuf := Lib.hid hbuf
  have Hr1 := Lib.hid hr1
  have hbase : base ≤ w1.heap.size := by have := hps1.low; omega
  clear hps1 hbuf hr1
  go_wp2
  go_region_law (first
    | (refine stepAppend rfl _ _ _ _ rfl _ _ rfl rfl _ _ Hrun.out ?_)
    | (go_simp; go_at_call 66;
       refine (rtake_in base r t m _ (by exact Hr1.out.draw) (by omega) hmt).mono ?_;
       rintro e w2 ⟨rfl, hr2, hg2⟩;
       obtain ⟨hbuf2, e1, e0⟩ := Ps.keep Hps1.out.draw (show OptBuf base ao cap l w1.drew from Hbuf.out) d1 hg2;
       have hps2 := Hps1.out.draw.read hg2 hr2;
       have hsz := hg2.size;
       have hp2 := hps2.at.2.2.1;
       obtain ⟨ao', cp', w3, hrun, hbuf3, hg3⟩ := append_opt base ao cap l (w2.alloc (.cells #[.int .i64 k, .string (ba (t.take m))] 56)) (hbuf2.alloc _) k (ba (t.take m)) w2.heap.size (by simp) (by simp) 23 (by omega) (by simp; simp at hsz; omega);
       obtain ⟨g1, v3, g0⟩ := Ps.old (hps2.alloc _) (hbuf2.alloc _) hg3;
       have hend := Ps.back (hps2.alloc _) (hbuf2.alloc _) hg3 hbuf3;
       have hb3 : Below base w (w2.alloc (.cells #[.int .i64 k, .string (ba (t.take m))] 56)) := (hb1.drew.trans (Hps1.out.draw.below hg2)).alloc (by simp at hsz; omega) _;
       have Hend := Lib.hid hend;
       have Hrun := Lib.hid hrun;
       clear hrun hend hbuf3 hg3 hbuf2 hps2 hg2 hr2))
  all_goals
    go_wp2
    go_ret
    rw [Hnn.out, ← Hm.out]
    have hlen : (l ++ [(⟨k, ba (t.take m)⟩ : Opt)]).length = l.length + 1 := by simp
    have h1 := Hend.out.1
    have h2 := hb3.trans Hend.out.2
    rw [hlen] at h1 h2
    exact ⟨rfl, h1, h2⟩

set_option maxHeartbeats 400000 in
theorem next_zero (base p r : Nat) (t : List UInt8) (l : List Opt) (w : World) (h : Ps base p r (some (ba (0 :: t))) l w) (ht : t.length ≤ 100) :
    Calls Tryz.prog 77 #[.pointer (some ⟨p, 0, none⟩)] w fun e w' => e = .returned (.int .i64 (if t.all (· == 0) then 0 else 3)) ∧ Ps base p r (some (ba [])) l w' ∧ Below base w w' := by
  obtain ⟨c0, f1, hp, ao, cap, c1, hbuf⟩ := h.at
  have Hps := Lib.hid h
  have He := Lib.hid (fun w h => ending_any base p r t l w h ht)
  generalize (if t.all (· == 0) then (0 : Int) else 3) = z at *
  clear hbuf
  go_enter Tryz.func77, Tryz.ntmps77
  clear h
  go_wp2_with fail
  refine (rbyte_cons base r 0 t w Hps.out.rd (by omega)).mono ?_
  rintro e w1 ⟨rfl, hr1, hg1⟩
  have hps1 := Hps.out.read hg1 hr1
  have hb1 := Hps.out.below hg1
  clear hg1 hr1 c0 c1 f1
  have hz : ((UInt8.toNat 0 : Nat) : Int) = 0 := rfl
  rw [hz]
  clear hz
  go_wp2_with fail
  refine (He.out w1 hps1).mono ?_
  rintro e w2 ⟨rfl, hps2, hb2⟩
  go_wp2
  go_ret
  exact ⟨rfl, hps2, hb1.trans hb2⟩

set_option maxHeartbeats 1000000 in
theorem next_one (base p r : Nat) (t : List UInt8) (l : List Opt) (w : World) (h : Ps base p r (some (ba (1 :: t))) l w) (ht : t.length ≤ 100) (hl : l.length ≤ 1000) :
    Calls Tryz.prog 77 #[.pointer (some ⟨p, 0, none⟩)] w fun e w' => e = .returned (.int .i64 0) ∧ Ps base p r (some (ba t)) (l ++ [⟨1, ⟨#[]⟩⟩]) w' ∧ Below base w w' := by
  obtain ⟨c0, f1, hp, ao, cap, c1, hbuf⟩ := h.at
  have Hps := Lib.hid h
  clear hbuf
  go_enter Tryz.func77, Tryz.ntmps77
  clear h
  go_wp2_with fail
  refine (rbyte_cons base r 1 t w Hps.out.rd (by omega)).mono ?_
  rintro e w1 ⟨rfl, hr1, hg1⟩
  have hps1 := Hps.out.read hg1 hr1
  have hb1 := Hps.out.below hg1
  clear hg1 hr1 c0 c1 f1
  have hz : ((UInt8.toNat 1 : Nat) : Int) = 1 := rfl
  rw [hz]
  clear hz
  obtain ⟨d0, df, dp, ao, cap, d1, hbuf⟩ := hps1.at
  have hlow := hps1.low
  obtain ⟨ao', cp', w3, hrun, hbuf3, hg3⟩ := append_opt base ao cap l (w1.alloc (.cells #[.int .i64 1, .string ⟨#[]⟩] 56)) (hbuf.alloc _) 1 ⟨#[]⟩ w1.heap.size (by simp) (by simp) 23 (by omega) (by simp; omega)
  obtain ⟨g1, v3, g0⟩ := Ps.old (hps1.alloc _) (hbuf.alloc _) hg3
  have hend := Ps.back (hps1.alloc _) (hbuf.alloc _) hg3 hbuf3
  have hb3 : Below base w (w1.alloc (.cells #[.int .i64 1, .string ⟨#[]⟩] 56)) := hb1.alloc (by omega) _
  have Hend := Lib.hid hend
  have Hrun := Lib.hid hrun
  clear hrun hend hbuf3 hg3 hbuf hps1 hb1
  go_wp2_with (at_builtin; refine listAppend rfl _ _ _ _ rfl _ _ rfl rfl _ _ Hrun.out ?_)
  go_ret
  have hlen : (l ++ [(⟨1, ⟨#[]⟩⟩ : Opt)]).length = l.length + 1 := by simp
  have h1 := Hend.out.1
  have h2 := hb3.trans Hend.out.2
  rw [hlen] at h1 h2
  exact ⟨rfl, by simpa using h1, by simpa using h2⟩

set_option maxHeartbeats 400000 in
theorem next_long (base p r : Nat) (k : UInt8) (t : List UInt8) (l : List Opt) (w : World) (h : Ps base p r (some (ba (k :: t))) l w) (ht : t.length ≤ 100) (hk0 : k ≠ 0) (hk1 : k ≠ 1) (z : Int) (Q : World → Prop)
    (H : ∀ w1, Ps base p r (some (ba t)) l w1 → Below base w w1 → Calls Tryz.prog 81 #[.pointer (some ⟨p, 0, none⟩), .int .i64 k.toNat] w1 fun e w' => e = .returned (.int .i64 z) ∧ Q w') :
    Calls Tryz.prog 77 #[.pointer (some ⟨p, 0, none⟩)] w fun e w' => e = .returned (.int .i64 z) ∧ Q w' := by
  obtain ⟨c0, f1, hp, ao, cap, c1, hbuf⟩ := h.at
  have Hps := Lib.hid h
  have HH := Lib.hid H
  have h2 : 2 ≤ k.toNat := by
    rcases Nat.lt_or_ge k.toNat 2 with h | h
    · exfalso
      rcases (show k.toNat = 0 ∨ k.toNat = 1 by omega) with h | h
      · exact hk0 (UInt8.toNat_inj.1 h)
      · exact hk1 (UInt8.toNat_inj.1 h)
    · exact h
  clear hbuf H hk0 hk1
  go_enter Tryz.func77, Tryz.ntmps77
  clear h
  go_wp2_with fail
  refine (rbyte_cons base r k t w Hps.out.rd (by omega)).mono ?_
  rintro e w1 ⟨rfl, hr1, hg1⟩
  have hps1 := Hps.out.read hg1 hr1
  have hb1 := Hps.out.below hg1
  clear hg1 hr1 c0 c1 f1
  generalize k.toNat = n at *
  go_wp2_with fail
  refine (HH.out w1 hps1 hb1).mono ?_
  rintro e w2 ⟨rfl, hq⟩
  go_wp2
  go_ret
  exact ⟨rfl, hq⟩

namespace O
def app (l : List Opt) (x : Except Nat (List Opt)) : Except Nat (List Opt) := match x with | .ok m => .ok (l ++ m) | .error e => .error e
theorem app_nil (x : Except Nat (List Opt)) : app [] x = x := by cases x <;> rfl
theorem app_snoc (l : List Opt) (o : Opt) (x : Except Nat (List Opt)) : app (l ++ [o]) x = app l (match x with | .ok m => .ok (o :: m) | .error e => .error e) := by cases x <;> simp [app]

/-- What a Parse ends in. -/
def Parsed (x : Except Nat (List Opt)) (w : World) (e : Ending) (w' : World) : Prop :=
  match x with
  | .ok l => ∃ ao cp, e = .returned (.tuple #[.slice ao l.length cp, .int .i64 0]) ∧ OptRow w' ao l ∧ Below w.heap.size w w'
  | .error n => e = .returned (.tuple #[.slice none 0 0, .int .i64 n]) ∧ Below w.heap.size w w'
end O

set_option maxHeartbeats 400000 in
theorem parse_long (s : List UInt8) (w : World) (hs : s.length ≤ 100000) (h : 40 < s.length) :
    Calls Tryz.prog 65 #[.string (ba s)] w (O.Parsed (.error 5) w) := by
  have hz := ba_size s
  go_enter Tryz.func65, Tryz.ntmps65
  go_wp2
  go_ret2
  exact ⟨rfl, Below.refl _ _⟩

set_option maxHeartbeats 400000 in
theorem parse_form (s : List UInt8) (w : World) (h : s.length ≤ 40) (h4 : s.length % 4 ≠ 0) :
    Calls Tryz.prog 65 #[.string (ba s)] w (O.Parsed (.error 3) w) := by
  have hz := ba_size s
  have hp : 0 < O.pad s.length := by unfold O.pad; omega
  go_enter Tryz.func65, Tryz.ntmps65
  go_wp2_with fail
  refine (padding_any s.length w (by omega)).mono ?_
  rintro e w1 ⟨rfl, rfl⟩
  generalize O.pad s.length = q at *
  go_wp2
  go_ret2
  exact ⟨rfl, Below.refl _ _⟩
#print axioms next_long
#print axioms ending_any
end Go.Proofs.YtncnildpbccpaaaGreatDoor

namespace Go.Proofs.YtncnildpbccpaaaGreatDoor
open Go.RowKit

theorem par_step_one (l : List Opt) (t : List UInt8) : O.app l (O.par (1 :: t)) = O.app (l ++ [⟨1, ⟨#[]⟩⟩]) (O.par t) := by rw [O.app_snoc, O.par_one]; rfl

theorem par_step_long (l : List Opt) (k n : UInt8) (t : List UInt8) (h0 : k ≠ 0) (h1 : k ≠ 1) (hn : n.toNat ≤ 2 + t.length) (hn2 : 2 ≤ n.toNat) :
    O.app l (O.par (k :: n :: t)) = O.app (l ++ [⟨(k.toNat : Int), ba (t.take (n.toNat - 2))⟩]) (O.par (t.drop (n.toNat - 2))) := by
  rw [O.app_snoc, O.par_long k n t h0 h1, if_neg (by omega), if_neg (by omega)]
  rfl

theorem error_of {l : List Opt} {x : Except Nat (List Opt)} {n : Nat} {y : Except Nat (List Opt)} (h : y = O.app l x) (hx : x = .error n) : y = .error n := by rw [h, hx]; rfl

set_option maxHeartbeats 2000000 in
theorem parse_go (s : List UInt8) (w : World) (h : s.length ≤ 40) (h4 : s.length % 4 = 0) :
    Calls Tryz.prog 65 #[.string (ba s)] w (O.Parsed (O.par s) w) := by
  have hz := ba_size s
  have hp : O.pad s.length = 0 := by unfold O.pad; omega
  have Hp := Lib.hid hp
  clear hp
  obtain ⟨R, hR⟩ : ∃ R, O.par s = R := ⟨_, rfl⟩
  have HR := Lib.hid hR
  rw [hR]
  clear hR
  have HP : Hid (∀ n w', R = .error n → Below w.heap.size w w' → O.Parsed R w (.returned (.tuple #[.slice none 0 0, .int .i64 n])) w') := Lib.hid (by rintro n w' rfl hb; exact ⟨rfl, hb⟩)
  have HO : Hid (∀ l ao cp w', R = .ok l → OptRow w' ao l → Below w.heap.size w w' → O.Parsed R w (.returned (.tuple #[.slice ao l.length cp, .int .i64 0])) w') := Lib.hid (by rintro l ao cp w' rfl h1 h2; exact ⟨ao, cp, rfl, h1, h2⟩)
  generalize hG : O.Parsed R w = G at *
  clear hG
  go_enter Tryz.func65, Tryz.ntmps65
  go_wp2_with fail
  refine (padding_any s.length w (by omega)).mono ?_
  rintro e w1 ⟨rfl, rfl⟩
  rw [Hp.out]
  go_wp2_with fail
  refine (Read_any (ba s) w).mono ?_
  rintro e w1 ⟨rfl, hr1, hb1⟩
  have hb1s := hb1.size
  have hlt1 := lt_of_block hr1.cells
  go_wp2
  have hps : Ps w.heap.size w1.heap.size w.heap.size (some (ba s)) [] (w1.alloc (.cells #[.pointer (some ⟨w.heap.size, 0, none⟩), .slice none 0 0] 117)) :=
    ⟨hb1s, by omega, ⟨none, 0, heap_alloc_new w1 _, OptBuf.nil _ _⟩, ⟨hr1.low, (Below.heap_alloc w1 _ _ hlt1).trans hr1.cells⟩⟩
  have hb2 : Below w.heap.size w (w1.alloc (.cells #[.pointer (some ⟨w.heap.size, 0, none⟩), .slice none 0 0] 117)) := hb1.alloc hb1s _
  clear hr1 hb1 hz
  generalize (w1.alloc (.cells #[.pointer (some ⟨w.heap.size, 0, none⟩), .slice none 0 0] 117)) = w2 at *
  generalize w1.heap.size = p at *
  generalize hB : w.heap.size = B at *
  clear hB hb1s hlt1
  go_loopg [5] s.length (fun g x wr => ∃ (t : List UInt8) (l : List Opt), t.length = g ∧ Ps B p B (some (ba t)) l wr ∧ Below B w wr ∧ Hid (R = O.app l (O.par t)) ∧ l.length + t.length ≤ 40)
  case atStart => exact ⟨s, [], rfl, hps, hb2, Lib.hid (by rw [O.app_nil]; exact HR.out.symm), by simpa using h⟩
  case round =>
    obtain ⟨t, l, hg, hps, hb, Hq, hlen⟩ := hrel
    have Hg := Lib.hid hg
    clear hg
    obtain ⟨c0, f1, hpl, ao, cap, c1, hbuf⟩ := hps.at
    have Hps := Lib.hid hps
    clear hps
    have Hbuf := Lib.hid hbuf
    clear hbuf
    go_wp2_with fail
    refine (Left_any B B (some (ba t)) wr Hps.out.rd).mono ?_
    rintro e w3 ⟨rfl, rfl⟩
    simp only [Option.getD_some, ba_size]
    match t, Hg, Hps, Hq, hlen with
    | [], Hg, Hps, Hq, hlen =>
      simp only [List.length_nil]
      go_wp2
      exact HO.out l ao cap wr (by rw [Hq.out, O.par_nil]; simp [O.app]) Hbuf.out.row hb
    | k :: t, Hg, Hps, Hq, hlen =>
      have hlen' : l.length + t.length + 1 ≤ 40 := by simpa [Nat.add_assoc] using hlen
      clear hlen
      simp only [List.length_cons]
      by_cases hk0 : k = 0
      · subst hk0
        go_wp2_with fail
        refine (next_zero B p B t l wr Hps.out (by omega)).mono ?_
        rintro e w3 ⟨rfl, hps3, hb3⟩
        have hbw := hb.trans hb3
        have hpz := O.par_zero t
        clear hb hb3 c0 c1 f1 Hbuf Hps
        cases hall : t.all (· == 0) with
        | true =>
          have Hpz : Hid (O.par (0 :: t) = .ok []) := Lib.hid (by rw [hpz, hall]; rfl)
          clear hall hpz
          simp only [if_true]
          go_wp2
          go_roundg 0
          case measure => rw [← Hg.out]; simp
          case rel => exact ⟨[], l, rfl, hps3, hbw, Lib.hid (by rw [Hq.out, Hpz.out, O.par_nil]), by simp; omega⟩
        | false =>
          have Hpz : Hid (O.par (0 :: t) = .error 3) := Lib.hid (by rw [hpz, hall]; rfl)
          clear hall hpz
          simp only [Bool.false_eq_true, if_false]
          go_wp2
          exact HP.out 3 w3 (error_of Hq.out Hpz.out) hbw
      · by_cases hk1 : k = 1
        · subst hk1
          go_wp2_with fail
          refine (next_one B p B t l wr Hps.out (by omega) (by omega)).mono ?_
          rintro e w3 ⟨rfl, hps3, hb3⟩
          have hbw := hb.trans hb3
          clear hb hb3 c0 c1 f1 Hbuf Hps
          go_wp2
          go_roundg t.length
          case measure => rw [← Hg.out]; simp
          case rel => exact ⟨t, _, rfl, hps3, hbw, Lib.hid (by rw [Hq.out, par_step_one]), by simp; omega⟩
        · match t, Hg, Hps, Hq, hlen' with
          | [], Hg, Hps, Hq, hlen' =>
            have Hpz := Lib.hid (O.par_end k hk0 hk1)
            go_wp2_with fail
            refine (next_long B p B k [] l wr Hps.out (by simp) hk0 hk1 2 (fun w' => Below B w w') (fun w1 h1 h2 => (long_none B p B _ l w1 h1).mono fun e w' ⟨he, hb'⟩ => ⟨he, (hb.trans h2).trans hb'⟩)).mono ?_
            rintro e w3 ⟨rfl, hbw⟩
            clear hb c0 c1 f1 Hbuf Hps
            go_wp2
            exact HP.out 2 w3 (error_of Hq.out Hpz.out) hbw
          | n :: t, Hg, Hps, Hq, hlen' =>
            have hlen : l.length + t.length + 2 ≤ 40 := by simpa [Nat.add_assoc] using hlen'
            clear hlen'
            have hpz := O.par_long k n t hk0 hk1
            by_cases hn : 2 + t.length < n.toNat
            · have Hpz : Hid (O.par (k :: n :: t) = .error 2) := Lib.hid (by rw [hpz, if_pos hn])
              clear hpz
              go_wp2_with fail
              refine (next_long B p B k (n :: t) l wr Hps.out (by simp; omega) hk0 hk1 2 (fun w' => Below B w w') (fun w1 h1 h2 => (long_short B p B _ n t l w1 h1 (by omega) hn).mono fun e w' ⟨he, hb'⟩ => ⟨he, (hb.trans h2).trans hb'⟩)).mono ?_
              rintro e w3 ⟨rfl, hbw⟩
              clear hb c0 c1 f1 Hbuf Hps
              go_wp2
              exact HP.out 2 w3 (error_of Hq.out Hpz.out) hbw
            · by_cases hn2 : n.toNat < 2
              · have Hpz : Hid (O.par (k :: n :: t) = .error 3) := Lib.hid (by rw [hpz, if_neg hn, if_pos hn2])
                clear hpz
                go_wp2_with fail
                refine (next_long B p B k (n :: t) l wr Hps.out (by simp; omega) hk0 hk1 3 (fun w' => Below B w w') (fun w1 h1 h2 => (long_form B p B _ n t l w1 h1 (by omega) (by omega) hn2).mono fun e w' ⟨he, hb'⟩ => ⟨he, (hb.trans h2).trans hb'⟩)).mono ?_
                rintro e w3 ⟨rfl, hbw⟩
                clear hb c0 c1 f1 Hbuf Hps
                go_wp2
                exact HP.out 3 w3 (error_of Hq.out Hpz.out) hbw
              · have Hst := Lib.hid (par_step_long l k n t hk0 hk1 (by omega) (by omega))
                clear hpz
                go_wp2_with fail
                refine (next_long B p B k (n :: t) l wr Hps.out (by simp; omega) hk0 hk1 0 (fun w' => Ps B p B (some (ba (t.drop (n.toNat - 2)))) (l ++ [⟨(k.toNat : Int), ba (t.take (n.toNat - 2))⟩]) w' ∧ Below B w w') (fun w1 h1 h2 => (long_ok B p B _ n t l w1 h1 (by omega) (by omega) (by omega) (by omega)).mono fun e w' ⟨he, hps', hb'⟩ => ⟨he, hps', (hb.trans h2).trans hb'⟩)).mono ?_
                rintro e w3 ⟨rfl, hps3, hbw⟩
                clear hb c0 c1 f1 Hbuf Hps
                go_wp2
                go_roundg (t.drop (n.toNat - 2)).length
                case measure => rw [← Hg.out]; simp; omega
                case rel => exact ⟨_, _, rfl, hps3, hbw, Lib.hid (by rw [Hq.out, Hst.out]), by simp; omega⟩

theorem optParse_any (s : List UInt8) (w : World) (hs : s.length ≤ 100000) : Calls Tryz.prog 65 #[.string (ba s)] w (O.Parsed (O.parse s) w) := by
  unfold O.parse
  split
  · exact parse_long s w hs (by omega)
  · split
    · exact parse_form s w (by omega) (by assumption)
    · exact parse_go s w (by omega) (by omega)
#print axioms optParse_any
end Go.Proofs.YtncnildpbccpaaaGreatDoor

