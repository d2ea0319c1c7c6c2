/- The walk of the document's own packet of bytes, from its options on. -/
import Derived.Test.YtncnildpbccpaaaGreatDoorKm
import Derived.Test.YtncnildpbccpaaaGreatDoorKc
import Derived.Test.YtncnildpbccpaaaGreatDoorKk
import Derived.Test.YtncnildpbccpaaaGreatDoorKl
set_option maxRecDepth 100000
namespace Go.Proofs.YtncnildpbccpaaaGreatDoor
open Go.RowKit
set_option linter.unusedVariables false

theorem alloc_drewN (w : World) (k : Nat) (X : Obj) : (w.drewN k).alloc X = (w.alloc X).drewN k := by
  induction k with
  | zero => rfl
  | succ n ih => exact congrArg World.drew ih

end Go.Proofs.YtncnildpbccpaaaGreatDoor

namespace Go.Proofs.YtncnildpbccpaaaGreatDoor
namespace H

/-- All that holds where a packet is answered. -/
structure Ok (s : List UInt8) (l : List Opt) : Prop where
  len : 20 ≤ s.length
  ver : g s 0 / 16 = 4
  hl20 : 20 ≤ hl s
  flag : sh s 6 < 32768
  hlen : hl s ≤ s.length
  size : sh s 2 = s.length
  good : M.ofs [ba (s.take (hl s))] = 0
  opts : O.parse ((s.drop 20).take (hl s - 20)) = .ok l
  data : sh s 6 % 8192 * 8 + (s.length - hl s) ≤ 65535

theorem Ok.parse {s : List UInt8} {l : List Opt} (h : Ok s l) : H.parse s = .ok (pkt s l) := by
  have h1 := h.hl20
  have h2 := h.hlen
  have h3 := h.size
  unfold H.parse
  rw [if_neg (by have := h.len; omega), if_neg (by have := h.ver; have := h.flag; omega), if_neg (by omega), if_neg (by omega), if_neg (by omega), if_neg (by omega), if_neg (by rw [h.good]; simp), h.opts]
  exact if_neg (by have := h.data; omega)

theorem parse_inv (s : List UInt8) (k : Pkt) (h : H.parse s = .ok k) : ∃ l, k = pkt s l ∧ Ok s l := by
  unfold H.parse at h
  split at h
  · cases h
  rename_i a1
  split at h
  · cases h
  rename_i a2
  split at h
  · cases h
  rename_i a3
  split at h
  · cases h
  rename_i a4
  split at h
  · cases h
  rename_i a5
  split at h
  · cases h
  rename_i a6
  split at h
  · cases h
  rename_i a7
  split at h
  · cases h
  rename_i l hp
  split at h
  · cases h
  rename_i a8
  cases h
  exact ⟨l, rfl, by omega, by omega, by omega, by omega, by omega, by omega, by simpa using a7, hp, by omega⟩

theorem parse_err_ge (s : List UInt8) (n : Nat) (h : H.parse s = .error n) : 2 ≤ n ∧ n ≤ 5 := by
  unfold H.parse at h
  split at h
  · cases h; omega
  split at h
  · cases h; omega
  split at h
  · cases h; omega
  split at h
  · cases h; omega
  split at h
  · cases h; omega
  split at h
  · cases h; omega
  split at h
  · cases h; omega
  split at h
  · rename_i e hp
    cases h
    exact O.parse_err _ _ hp
  · split at h
    · cases h; omega
    · cases h
end H
#print axioms H.parse_inv
end Go.Proofs.YtncnildpbccpaaaGreatDoor

namespace Go.Proofs.YtncnildpbccpaaaGreatDoor
open Go.RowKit
set_option linter.unusedVariables false

/-- header's own, alike. -/
theorem hparse (s : List UInt8) (w : World) (hs : s.length ≤ 90000) :
    Calls Tryz.prog 13 #[.string (ba s)] w (HParsed (H.parse s) w) := by
  cases hp : H.parse s with
  | error n => exact hparse_err s w hs n (H.parse_err_ge s n hp).1 hp
  | ok k =>
    obtain ⟨l, rfl, _⟩ := H.parse_inv s k hp
    exact hparse_ok s w hs l hp
#print axioms hparse
end Go.Proofs.YtncnildpbccpaaaGreatDoor

