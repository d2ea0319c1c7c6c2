/- The walks of the document's own ports. -/
import Derived.Test.YtekgblidpbkccaaSgParse
import Derived.Test.YtekgblidpbkccaaSRef
import Derived.IntWalk
namespace Go.Proofs.Ytekgblidpbkccaa
open Go.RowKit
set_option linter.unusedVariables false
set_option maxRecDepth 100000

theorem sba_get (s : List UInt8) (a : Nat) (h : a < (ba s).size) : (ba s)[a].toNat = H.g s a := by
  have h' : a < s.length := h
  unfold H.g
  rw [List.getD_eq_getElem?_getD, List.getElem?_eq_getElem h']
  rfl
theorem sret_i64 {a b : Int} (h : a = b) : Ending.returned (.int .i64 a) = .returned (.int .i64 b) := by rw [h]

set_option maxHeartbeats 400000 in
theorem rs_any (S : ByteArray) (a x y : Nat) (w : World) (h : a + 1 < S.size) (hs : S.size ≤ 100000) (hx : S[a].toNat = x) (hy : S[a + 1].toNat = y) :
    Calls Try.prog 29 #[.string S, .int .i64 a] w fun e w' => e = .returned (.int .i64 ((256 * x + y : Nat) : Int)) ∧ w' = w.drew := by
  have h1 : a < S.size := by omega
  have hxl := S[a].toNat_lt
  have hyl := S[a + 1].toNat_lt
  have hx' : ((S[a].toNat : Nat) : Int) = (x : Int) := by rw [hx]
  have hy' : ((S[a + 1].toNat : Nat) : Int) = (y : Int) := by rw [hy]
  rw [hx] at hxl
  rw [hy] at hyl
  clear hx hy
  have q1 : (a : Int) < (S.size : Int) := by omega
  have q2 : (a : Int) + 1 < (S.size : Int) := by omega
  have q3 : IntKind.i64.wrap ((a : Int) + 1) = (a : Int) + 1 := IntWalk.i64_in _ (by omega)
  have q4 : ((a : Int) + 1).toNat = a + 1 := by omega
  have q5 : 0 ≤ (a : Int) + 1 := by omega
  go_enter Try.func29, Try.ntmps29
  go_wp2
  have q6 : IntKind.i64.wrap (256 * (x : Int)) = 256 * (x : Int) := IntWalk.i64_in _ (by omega)
  have q7 : IntKind.i64.wrap (256 * (x : Int) + (y : Int)) = 256 * (x : Int) + (y : Int) := IntWalk.i64_in _ (by omega)
  go_region
  go_wp2
  go_ret
  exact ⟨sret_i64 (by omega), rfl⟩

theorem rs_at (s : List UInt8) (a : Nat) (z : Int) (hz : z = (a : Int)) (w : World) (h : a + 1 < s.length) (hs : s.length ≤ 90000) :
    Calls Try.prog 29 #[.string (ba s), .int .i64 z] w fun e w' => e = .returned (.int .i64 (H.sh s a)) ∧ w' = w.drew := by
  subst hz
  exact rs_any (ba s) a (H.g s a) (H.g s (a + 1)) w h (by rw [ba_size]; omega) (sba_get s a (by rw [ba_size]; omega)) (sba_get s (a + 1) h)

theorem rports_no (p : Int) (s : List UInt8) (w : World) (hs : s.length ≤ 90000) (h : ¬ ((p = 6 ∨ p = 17) ∧ 8 ≤ s.length)) :
    Calls Try.prog 15 #[.int .i64 p, .string (ba s)] w fun e w' => e = .returned (.tuple #[.int .i64 (-1), .int .i64 (-1)]) ∧ Below w.heap.size w w' := by
  have hz := ba_size s
  by_cases h6 : p = 6
  · subst h6
    have hl : s.length < 8 := by omega
    generalize ba s = A at *
    go_enter Try.func15, Try.ntmps15
    go_wp2
    go_ret2
    exact ⟨rfl, Below.refl _ _⟩
  · by_cases h17 : p = 17
    · subst h17
      have hl : s.length < 8 := by omega
      generalize ba s = A at *
      go_enter Try.func15, Try.ntmps15
      go_wp2
      go_ret2
      exact ⟨rfl, Below.refl _ _⟩
    · have e1 : (p != 6) = true := by simpa using h6
      have e2 : (p != 17) = true := by simpa using h17
      generalize ba s = A at *
      go_enter Try.func15, Try.ntmps15
      go_wp2
      go_ret2
      exact ⟨rfl, Below.refl _ _⟩

theorem rports_yes (p : Int) (s : List UInt8) (w : World) (hs : s.length ≤ 90000) (hp : p = 6 ∨ p = 17) (hl : 8 ≤ s.length) :
    Calls Try.prog 15 #[.int .i64 p, .string (ba s)] w fun e w' => e = .returned (.tuple #[.int .i64 (H.sh s 0), .int .i64 (H.sh s 2)]) ∧ Below w.heap.size w w' := by
  have hz := ba_size s
  have H0 := Lib.hid (fun w => rs_at s 0 0 rfl w (by omega) hs)
  have H2 := Lib.hid (fun w => rs_at s 2 2 rfl w (by omega) hs)
  rcases hp with rfl | rfl
  all_goals
    go_enter Try.func15, Try.ntmps15
    go_wp2_with fail
    refine (H0.out _).mono ?_
    rintro e w1 ⟨rfl, rfl⟩
    go_wp2_with fail
    refine (H2.out _).mono ?_
    rintro e w2 ⟨rfl, rfl⟩
    go_wp2
    go_ret2
    exact ⟨rfl, ((Below.refl _ _).drew).drew⟩
#print axioms rports_yes
end Go.Proofs.Ytekgblidpbkccaa
