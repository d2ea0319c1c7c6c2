/- The walk of the document's own bytes of options. -/
import Derived.Test.YtncnildpbccpaaaDoorOptList
import Derived.BigRegion
import Derived.IntWalk
namespace Go.Proofs.YtncnildpbccpaaaDoor
set_option maxRecDepth 100000
open Go.RowKit

def strSize : Value → Nat
  | .string b => b.size
  | _ => 0

/-- A byte in a row of its own, as a text. -/
theorem conv1 (W : World) (r : Nat) (n : Nat) (x : Int) (hx : x = ((UInt8.ofNat n).toNat : Int)) (h : W.cell? ⟨r, 0, none⟩ = some (.int .u8 x)) :
    (convert 45 9 (.slice (some ⟨r, 0, none⟩) 1 1)).run Tryd.prog W = .ok (.string ⟨#[UInt8.ofNat n]⟩) W := by
  have hcells : ∀ j (hj : j < ([UInt8.ofNat n]).length), W.cell? ((⟨r, 0, none⟩ : Addr).add j) = some (.int .u8 (([UInt8.ofNat n])[j].toNat : Int)) := by
    intro j hj
    match j, hj with
    | 0, _ => rw [Addr.add_lit]; show W.cell? ⟨r, 0, none⟩ = _; rw [h, hx]; rfl
  exact run_convert_bytes_back (P := Tryd.prog) W 45 9 5 ⟨r, 0, none⟩ 1 _ Tryd.underlying45 Tryd.underlying5 Tryd.underlying9 hcells

theorem byte_int (n : Nat) (h : n ≤ 255) : (n : Int) = ((UInt8.ofNat n).toNat : Int) := by rw [O.byte_eq n (by omega)]

theorem ret_string {a b : ByteArray} (h : a = b) : Ending.returned (.string a) = .returned (.string b) := by rw [h]

theorem bytes_ext {a b : ByteArray} (h : a.data.toList = b.data.toList) : a = b := by
  cases a; cases b; simp at h; simp [h]

theorem encRaw_take (l : List Opt) (k : Nat) (h : k < l.length) : O.encRaw (l.take (k + 1)) = O.encRaw (l.take k) ++ O.encOne (l.getD k noOpt) := by
  rw [getD_take l k h, O.encRaw_append]; simp [O.encRaw]

theorem right_small (l : List Opt) (h : l.all O.right = true) : ∀ o ∈ l, o.data.size ≤ 38 := by
  intro o ho
  have := List.all_eq_true.1 h o ho
  unfold O.right at this
  split at this
  · have := of_decide_eq_true this; omega
  · exact (of_decide_eq_true this).2.2

theorem right_kind (l : List Opt) (h : l.all O.right = true) : ∀ o ∈ l, ∃ k : Nat, o.kind = (k : Int) ∧ 1 ≤ k ∧ k ≤ 255 ∧ (k = 1 → o.data.size = 0) := by
  intro o ho
  have := List.all_eq_true.1 h o ho
  unfold O.right at this
  split at this
  · rename_i h1
    have := of_decide_eq_true this
    exact ⟨1, h1, by omega, by omega, fun _ => this⟩
  · rename_i h1
    have := of_decide_eq_true this
    obtain ⟨k, hk⟩ := Int.eq_ofNat_of_zero_le (show 0 ≤ o.kind by omega)
    exact ⟨k, hk, by omega, by omega, fun h => by omega⟩

end Go.Proofs.YtncnildpbccpaaaDoor
