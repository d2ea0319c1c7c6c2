/- The walk of one category that is told. -/
import Derived.Test.YtmaddfjgiflkbaaDoorCtAwake
import Derived.Lib.AtoiAllCases
import Derived.Lib.AtoiTie
namespace Go.Proofs.YtmaddfjgiflkbaaDoor
set_option maxRecDepth 100000
open Go.RowKit
set_option maxRecDepth 100000
set_option linter.unusedVariables false

/-- What the library's variables must hold. -/
structure LaidF (w : World) : Prop where
  tabl : TabL w
  most : ∃ m : Int, w.cell? ⟨0, 0, none⟩ = some (.int .i64 m)
  syn : ∃ t p, w.cell? ⟨1, 0, none⟩ = some (.iface t p)
  ran : ∃ t p, w.cell? ⟨2, 0, none⟩ = some (.iface t p)
theorem LaidF.below {w w' : World} (h : LaidF w) (hb : Below w.heap.size w w') : LaidF w' := by
  obtain ⟨h0, ⟨m, h1⟩, ⟨t, p, h2⟩, ⟨t', p', h3⟩⟩ := h
  have h4 := h0.size
  exact ⟨h0.below hb, ⟨m, (hb.cell (p := ⟨0, 0, none⟩) (by show 0 < _; omega)).trans h1⟩, ⟨t, p, (hb.cell (p := ⟨1, 0, none⟩) (by show 1 < _; omega)).trans h2⟩, ⟨t', p', (hb.cell (p := ⟨2, 0, none⟩) (by show 2 < _; omega)).trans h3⟩⟩

namespace C
/-- The category that a text is read as. -/
def catOk (s : ByteArray) : Bool := match Lib.atoiAll s.data.toList with
  | .ok v => decide (0 ≤ v ∧ v ≤ 239)
  | _ => false
end C
/-- What category hands back. -/
def CatPost (s : ByteArray) (w : World) (e : Ending) (w' : World) : Prop :=
  ∃ k : Int, e = .returned (.tuple #[.int .i64 k, .bool (C.catOk s)]) ∧ (C.catOk s = true → Lib.atoiAll s.data.toList = .ok k ∧ 0 ≤ k ∧ k ≤ 239) ∧ Below w.heap.size w w'

theorem below_bytesC {w w1 : World} (h : w1 = w ∨ ∃ t, w1 = Lib.bytesWorld w 5 t) : Below w.heap.size w w1 := by
  rcases h with rfl | ⟨t, rfl⟩
  · exact Below.refl _ _
  · exact Lib.bytesWorld_below w 5 t

set_option maxHeartbeats 2000000 in
theorem category_any (s : ByteArray) (w : World) (L : LaidF w) (hl : s.size ≤ 100000) :
    Calls Tryd.prog 79 #[.string s] w (CatPost s w) := by
  obtain ⟨⟨ts, ps, hsyn⟩, ⟨tr, pr, hran⟩⟩ := And.intro L.syn L.ran
  cases ha : Lib.atoiAll s.data.toList with
  | ok v =>
    by_cases hv : 0 ≤ v ∧ v ≤ 239
    · have HK : Hid (C.catOk s = true) := Lib.hid (by unfold C.catOk; rw [ha]; simpa using hv)
      have HA := Lib.hid ha
      obtain ⟨k, rfl⟩ : ∃ k : Nat, v = k := ⟨v.toNat, by omega⟩
      clear L hsyn hran
      go_enter Tryd.func79, Tryd.ntmps79
      go_wp2_with fail
      refine (Tryd.strconv_Atoi_ok s (by omega) k HA.out w).mono ?_
      rintro e w1 ⟨rfl, hb⟩
      have k1 := below_bytesC hb
      clear hb ha
      go_wp2_with fail
      refine (isCat_yes k _ (by omega)).mono ?_
      rintro e w2 ⟨rfl, rfl⟩
      go_wp2
      go_ret2
      exact ⟨k, by rw [HK.out]; rfl, fun _ => ⟨HA.out, by omega, by omega⟩, k1⟩
    · have HK : Hid (C.catOk s = false) := Lib.hid (by unfold C.catOk; rw [ha]; simpa using hv)
      have HA := Lib.hid ha
      have hv' : v < 0 ∨ 239 < v := by omega
      clear L hsyn hran
      go_enter Tryd.func79, Tryd.ntmps79
      go_wp2_with fail
      refine (Tryd.strconv_Atoi_ok s (by omega) v HA.out w).mono ?_
      rintro e w1 ⟨rfl, hb⟩
      have k1 := below_bytesC hb
      clear hb ha
      go_wp2_with fail
      refine (isCat_no v _ hv').mono ?_
      rintro e w2 ⟨rfl, rfl⟩
      go_wp2
      go_ret2
      exact ⟨v, by rw [HK.out]; rfl, (fun h => by rw [HK.out] at h; cases h), k1⟩
  | «syntax» =>
    have HK : Hid (C.catOk s = false) := Lib.hid (by unfold C.catOk; rw [ha])
    have HA := Lib.hid ha
    clear L hran ha
    go_enter Tryd.func79, Tryd.ntmps79
    go_wp2_with fail
    refine (Tryd.strconv_Atoi_syntax s (by omega) HA.out _ w hsyn (.inr ⟨_, _, rfl⟩)).mono ?_
    rintro e w1 ⟨N, rfl, hN, hblk, hb⟩
    clear hblk hN hsyn
    go_wp2
    go_ret2
    exact ⟨0, by rw [HK.out]; rfl, (fun h => by rw [HK.out] at h; cases h), hb⟩
  | range =>
    have HK : Hid (C.catOk s = false) := Lib.hid (by unfold C.catOk; rw [ha])
    have HA := Lib.hid ha
    clear L hsyn ha
    go_enter Tryd.func79, Tryd.ntmps79
    go_wp2_with fail
    refine (Tryd.strconv_Atoi_range s (by omega) HA.out _ w hran (.inr ⟨_, _, rfl⟩)).mono ?_
    rintro e w1 ⟨N, rfl, hN, hblk, hb⟩
    clear hblk hN hran
    generalize Lib.atoiSat s.data.toList = q at *
    go_wp2
    go_ret2
    exact ⟨q, by rw [HK.out]; rfl, (fun h => by rw [HK.out] at h; cases h), hb⟩
#print axioms category_any
end Go.Proofs.YtmaddfjgiflkbaaDoor
