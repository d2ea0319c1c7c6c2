/- Segments as plain data: whether one is right, its bytes. No program is named here but for the kinds of values. -/
import Derived.Test.YtohemlejceiojaaHdNum
import Derived.Test.YtohemlejceiojaaSPseudo
import Derived.Test.YtohemlejceiojaaSUpdMath
namespace Go.Proofs.Ytohemlejceiojaa
open Go.RowKit

/-- A segment's value, and its block. -/
abbrev sg (sp dp sq ak fl wi : Int) (d : ByteArray) : Value := .agg #[.int .i64 sp, .int .i64 dp, .int .u32 sq, .int .u32 ak, .int .i64 fl, .int .i64 wi, .string d]
abbrev sgO (sp dp sq ak fl wi : Int) (d : ByteArray) : Obj := .cells #[.int .i64 sp, .int .i64 dp, .int .u32 sq, .int .u32 ak, .int .i64 fl, .int .i64 wi, .string d] 24

namespace S
/-- Is it a short? -/
def fits (x : Int) : Prop := 0 ≤ x ∧ x ≤ 65535
instance (x : Int) : Decidable (fits x) := by unfold fits; exact inferInstance
/-- Is a segment right, n being how many bytes of data it has? -/
def Right (p sp dp sq ak fl wi : Int) (n : Nat) : Prop :=
  fits sp ∧ fits dp ∧ ((p = 6 ∧ (0 ≤ fl ∧ fl ≤ 63) ∧ fits wi ∧ n ≤ 65495) ∨ (p = 17 ∧ sq = 0 ∧ ak = 0 ∧ fl = 0 ∧ wi = 0 ∧ n ≤ 65507))
instance (p sp dp sq ak fl wi : Int) (n : Nat) : Decidable (Right p sp dp sq ak fl wi n) := by unfold Right; exact inferInstance
def right (p sp dp sq ak fl wi : Int) (n : Nat) : Bool := decide (Right p sp dp sq ak fl wi n)

/-- A header ahead of its check sum, and where that stands. -/
def pre6 (sp dp sq ak fl wi : Nat) : List UInt8 := be2 sp ++ be2 dp ++ word sq ++ word ak ++ be2 (20480 + fl) ++ be2 wi
def pre17 (sp dp n : Nat) : List UInt8 := be2 sp ++ be2 dp ++ be2 (8 + n)
theorem pre6_length (sp dp sq ak fl wi : Nat) : (pre6 sp dp sq ak fl wi).length = 16 := rfl
theorem pre17_length (sp dp n : Nat) : (pre17 sp dp n).length = 6 := rfl
/-- The header with 0 as its check sum. -/
def head6 (sp dp sq ak fl wi : Nat) : List UInt8 := pre6 sp dp sq ak fl wi ++ [0, 0, 0, 0]
def head17 (sp dp n : Nat) : List UInt8 := pre17 sp dp n ++ [0, 0]
theorem head6_length (sp dp sq ak fl wi : Nat) : (head6 sp dp sq ak fl wi).length = 20 := rfl
theorem head17_length (sp dp n : Nat) : (head17 sp dp n).length = 8 := rfl

/-- What is told as a check sum. -/
def told (p : Int) (n : Nat) : Nat := if p = 17 ∧ n = 0 then 65535 else n
/-- The check sum of a header and its data. -/
def cks (p : Int) (src dst : Nat) (h : List UInt8) (d : ByteArray) : Nat := told p (M.ofs [ba (pseudo src dst p ((h.length + d.size : Nat) : Int)), ba h, d])
/-- A segment's bytes, of its header with 0 at k. -/
def put (h : List UInt8) (k c : Nat) (d : ByteArray) : List UInt8 := h.take k ++ be2 c ++ (h.drop (k + 2) ++ d.data.toList)
end S

theorem told_le (p : Int) (n : Nat) (h : n ≤ 65535) : S.told p n ≤ 65535 := by unfold S.told; split <;> omega
theorem Mofs_le (l : List ByteArray) : M.ofs l ≤ 65535 := by unfold M.ofs; omega
theorem cks_le (p : Int) (src dst : Nat) (h : List UInt8) (d : ByteArray) : S.cks p src dst h d ≤ 65535 := told_le _ _ (Mofs_le _)
end Go.Proofs.Ytohemlejceiojaa
