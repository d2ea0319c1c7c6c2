/- The walks of sum.Update and of the document's two bytes. -/
import Derived.Test.YtohemlejceiojaaSRef
namespace Go.Proofs.Ytohemlejceiojaa
open Go.RowKit

/-- A short's two bytes, the higher first. -/
def two (n : Nat) : ByteArray := ⟨#[UInt8.ofNat (n / 256), UInt8.ofNat (n % 256)]⟩

theorem two_size (n : Nat) : (two n).size = 2 := rfl

set_option maxHeartbeats 400000 in
theorem short_any (n : Nat) (w : World) (hn : n ≤ 65535) :
    Calls Try.prog 20 #[.int .i64 n] w fun e w' => e = .returned (.string (two n)) ∧ Below w.heap.size w w' := by
  have hcells : ∀ j (hj : j < [UInt8.ofNat (n / 256), UInt8.ofNat (n % 256)].length), (w.alloc (.cells #[.int .u8 ((n : Int) / 256), .int .u8 ((n : Int) % 256)] 5)).cell? ((⟨w.heap.size, 0, none⟩ : Addr).add j) = some (.int .u8 ([UInt8.ofNat (n / 256), UInt8.ofNat (n % 256)][j].toNat : Int)) := by
    intro j hj
    match j, hj with
    | 0, _ => simp [Addr.add]; omega
    | 1, _ => simp [Addr.add]
  have hcv : (convert 35 9 (.slice (some ⟨w.heap.size, 0, none⟩) 2 2)).run Try.prog (w.alloc (.cells #[.int .u8 ((n : Int) / 256), .int .u8 ((n : Int) % 256)] 5)) = .ok (.string (two n)) (w.alloc (.cells #[.int .u8 ((n : Int) / 256), .int .u8 ((n : Int) % 256)] 5)) := run_convert_bytes_back (P := Try.prog) _ 35 9 5 ⟨w.heap.size, 0, none⟩ 2 _ Try.underlying35 Try.underlying5 Try.underlying9 hcells
  clear hcells
  go_enter Try.func20, Try.ntmps20
  go_wp2
  go_ret
  exact ⟨rfl, (Below.refl _ _).alloc (Nat.le_refl _) _⟩

end Go.Proofs.Ytohemlejceiojaa
