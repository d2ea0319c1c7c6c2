/- The walk of SegmentParses. -/
import Derived.Test.YtekgblidpbkccaaSgRefParse
import Derived.Test.YtekgblidpbkccaaSgAwake
namespace Go.Proofs.Ytekgblidpbkccaa
open Go.RowKit
set_option linter.unusedVariables false
set_option maxRecDepth 100000

theorem parsed_form (p : Int) (src dst : Nat) (s : List UInt8) : ∃ (a b c d e f : Nat) (g : ByteArray) (n : Nat), S.parsed p src dst s = .tuple #[sg a b c d e f g, .int .i64 (n : Int)] := by
  obtain ⟨a, b, c, d, e, f, g, _, hs⟩ := cs_pc p s
  by_cases h : S.perr p src dst s = 0
  · exact ⟨a, b, c, d, e, f, g, _, by unfold S.parsed; rw [if_pos h, hs]⟩
  · exact ⟨0, 0, 0, 0, 0, 0, nobytes, _, by unfold S.parsed; rw [if_neg h]; rfl⟩

theorem sgcell {w : World} {b : Nat} {a1 a2 a3 a4 a5 a6 : Int} {g : ByteArray} (h : w.heap[b]? = some (sgO a1 a2 a3 a4 a5 a6 g)) (i : Nat) (v : Value) (hv : (#[.int .i64 a1, .int .i64 a2, .int .u32 a3, .int .u32 a4, .int .i64 a5, .int .i64 a6, .string g] : Array Value)[i]? = some v) : w.cell? ⟨b, i, none⟩ = some v := by
  simp only [World.cell?, h]; exact hv

theorem parses_long (p src dst : Int) (s : ByteArray) (w : World) (hd : 3000 < s.size) :
    Calls Try.prog 4 #[.int .i64 p, .int .u32 src, .int .u32 dst, .string s] w fun e w' => e = .returned (.bool true) ∧ Below w.heap.size w w' := by
  have HA := Lib.hid seg_awake
  have q1 : (3000 : Int) < (s.size : Int) := by omega
  go_enter Try.func4, Try.ntmps4
  go_wp2_with fail
  refine (HA.out _).mono ?_
  rintro e w1 ⟨rfl, hb1⟩
  clear HA
  go_wp2
  go_ret
  exact ⟨rfl, hb1⟩

set_option maxHeartbeats 4000000 in
theorem parses_yes (p : Int) (src dst : Nat) (s : List UInt8) (w : World) (hsrc : src < 4294967296) (hdst : dst < 4294967296) (hd : s.length ≤ 3000) (hp : p = 6 ∨ p = 17) (hl : 8 ≤ s.length) :
    Calls Try.prog 4 #[.int .i64 p, .int .u32 src, .int .u32 dst, .string (ba s)] w fun e w' => e = .returned (.bool true) ∧ Below w.heap.size w w' := by
  have HA := Lib.hid seg_awake
  have hz := ba_size s
  have H1 := Lib.hid (fun w => sparse_any p src dst s w (by omega) hsrc hdst)
  have H2 := Lib.hid (fun w => rparse_any p src dst s w (by omega) hsrc hdst)
  obtain ⟨a, b, c, d, e, f, g, n, hf⟩ := parsed_form p src dst s
  rw [hf] at H1 H2
  clear hf
  have H3 := Lib.hid (fun w => sports_yes p s w (by omega) hp hl)
  have H4 := Lib.hid (fun w => rports_yes p s w (by omega) hp hl)
  generalize H.sh s 0 = x at *
  generalize H.sh s 2 = y at *
  have vx : (0 : Int) ≤ (x : Int) := by omega
  have vy : (0 : Int) ≤ (y : Int) := by omega
  generalize ba s = A at *
  go_enter Try.func4, Try.ntmps4
  go_wp2_with fail
  refine (H1.out _).mono ?_
  rintro e1 w1 ⟨rfl, hb1⟩
  go_wp2_with fail
  refine (H2.out _).mono ?_
  rintro e2 w2 ⟨rfl, hb2⟩
  have q1 : w2.heap[w1.heap.size]? = some (sgO a b c d e f g) := (hb2.block _ (by simp)).trans (heap_alloc_new w1 _)
  have hb1s := hb1.size
  have hbw2 : Below w.heap.size w w2 := (hb1.alloc hb1s _).trans (hb2.mono (by simp; omega))
  clear hb1 hb2 H1 H2
  go_wp2_with fail
  refine (H3.out _).mono ?_
  rintro e3 w3 ⟨rfl, hb3⟩
  have hlt := lt_of_block q1
  have q3 : w3.heap[w1.heap.size]? = some (sgO a b c d e f g) := (hb3.block _ (by simp; omega)).trans ((Below.heap_alloc w2 _ _ hlt).trans q1)
  have q4 : w3.heap[w2.heap.size]? = some (sgO a b c d e f g) := (hb3.block _ (by simp)).trans (heap_alloc_new w2 _)
  have hb2s := hbw2.size
  have hbw3 := (hbw2.alloc hb2s _).trans (hb3.mono (by simp; omega))
  clear hb3 q1 hbw2 H3
  generalize w1.heap.size = B1 at *
  generalize w2.heap.size = B2 at *
  go_wp2_with fail
  refine (H4.out _).mono ?_
  rintro e4 w4 ⟨rfl, hb4⟩
  have q5 := (hb4.block _ (lt_of_block q3)).trans q3
  have q6 := (hb4.block _ (lt_of_block q4)).trans q4
  have hbw4 := hbw3.trans (hb4.mono hbw3.size)
  clear hb4 q3 q4 hbw3 H4
  have k0 := sgcell q5 0 _ rfl
  have j0 := sgcell q6 0 _ rfl
  have k1 := sgcell q5 1 _ rfl
  have j1 := sgcell q6 1 _ rfl
  have k2 := sgcell q5 2 _ rfl
  have j2 := sgcell q6 2 _ rfl
  have k3 := sgcell q5 3 _ rfl
  have j3 := sgcell q6 3 _ rfl
  have k4 := sgcell q5 4 _ rfl
  have j4 := sgcell q6 4 _ rfl
  have k5 := sgcell q5 5 _ rfl
  have j5 := sgcell q6 5 _ rfl
  have k6 := sgcell q5 6 _ rfl
  have j6 := sgcell q6 6 _ rfl
  clear q5 q6
  go_wp2_with fail
  all_goals
    refine (HA.out _).mono ?_
    rintro e5 w5 ⟨rfl, hb5⟩
    have hbw5 := hbw4.trans (hb5.mono hbw4.size)
    clear hb5 hbw4
    go_wp2
    go_ret
    exact ⟨rfl, hbw5⟩

set_option maxHeartbeats 4000000 in
theorem parses_no (p : Int) (src dst : Nat) (s : List UInt8) (w : World) (hsrc : src < 4294967296) (hdst : dst < 4294967296) (hd : s.length ≤ 3000) (hp : ¬ ((p = 6 ∨ p = 17) ∧ 8 ≤ s.length)) :
    Calls Try.prog 4 #[.int .i64 p, .int .u32 src, .int .u32 dst, .string (ba s)] w fun e w' => e = .returned (.bool true) ∧ Below w.heap.size w w' := by
  have HA := Lib.hid seg_awake
  have hz := ba_size s
  have H1 := Lib.hid (fun w => sparse_any p src dst s w (by omega) hsrc hdst)
  have H2 := Lib.hid (fun w => rparse_any p src dst s w (by omega) hsrc hdst)
  obtain ⟨a, b, c, d, e, f, g, n, hf⟩ := parsed_form p src dst s
  rw [hf] at H1 H2
  clear hf
  have H3 := Lib.hid (fun w => sports_no p s w (by omega) hp)
  have H4 := Lib.hid (fun w => rports_no p s w (by omega) hp)
  clear hp
  generalize ba s = A at *
  go_enter Try.func4, Try.ntmps4
  go_wp2_with fail
  refine (H1.out _).mono ?_
  rintro e1 w1 ⟨rfl, hb1⟩
  go_wp2_with fail
  refine (H2.out _).mono ?_
  rintro e2 w2 ⟨rfl, hb2⟩
  have q1 : w2.heap[w1.heap.size]? = some (sgO a b c d e f g) := (hb2.block _ (by simp)).trans (heap_alloc_new w1 _)
  have hb1s := hb1.size
  have hbw2 : Below w.heap.size w w2 := (hb1.alloc hb1s _).trans (hb2.mono (by simp; omega))
  clear hb1 hb2 H1 H2
  go_wp2_with fail
  refine (H3.out _).mono ?_
  rintro e3 w3 ⟨rfl, hb3⟩
  have hlt := lt_of_block q1
  have q3 : w3.heap[w1.heap.size]? = some (sgO a b c d e f g) := (hb3.block _ (by simp; omega)).trans ((Below.heap_alloc w2 _ _ hlt).trans q1)
  have q4 : w3.heap[w2.heap.size]? = some (sgO a b c d e f g) := (hb3.block _ (by simp)).trans (heap_alloc_new w2 _)
  have hb2s := hbw2.size
  have hbw3 := (hbw2.alloc hb2s _).trans (hb3.mono (by simp; omega))
  clear hb3 q1 hbw2 H3
  generalize w1.heap.size = B1 at *
  generalize w2.heap.size = B2 at *
  go_wp2_with fail
  refine (H4.out _).mono ?_
  rintro e4 w4 ⟨rfl, hb4⟩
  have q5 := (hb4.block _ (lt_of_block q3)).trans q3
  have q6 := (hb4.block _ (lt_of_block q4)).trans q4
  have hbw4 := hbw3.trans (hb4.mono hbw3.size)
  clear hb4 q3 q4 hbw3 H4
  have k0 := sgcell q5 0 _ rfl
  have j0 := sgcell q6 0 _ rfl
  have k1 := sgcell q5 1 _ rfl
  have j1 := sgcell q6 1 _ rfl
  have k2 := sgcell q5 2 _ rfl
  have j2 := sgcell q6 2 _ rfl
  have k3 := sgcell q5 3 _ rfl
  have j3 := sgcell q6 3 _ rfl
  have k4 := sgcell q5 4 _ rfl
  have j4 := sgcell q6 4 _ rfl
  have k5 := sgcell q5 5 _ rfl
  have j5 := sgcell q6 5 _ rfl
  have k6 := sgcell q5 6 _ rfl
  have j6 := sgcell q6 6 _ rfl
  clear q5 q6
  go_wp2_with fail
  all_goals
    refine (HA.out _).mono ?_
    rintro e5 w5 ⟨rfl, hb5⟩
    have hbw5 := hbw4.trans (hb5.mono hbw4.size)
    clear hb5 hbw4
    go_wp2
    go_ret
    exact ⟨rfl, hbw5⟩

theorem parses_all (p src dst : Int) (s : ByteArray) (w : World) (hsrc : 0 ≤ src ∧ src < 4294967296) (hdst : 0 ≤ dst ∧ dst < 4294967296) :
    Calls Try.prog 4 #[.int .i64 p, .int .u32 src, .int .u32 dst, .string s] w fun e w' => e = .returned (.bool true) ∧ Below w.heap.size w w' := by
  by_cases hd : 3000 < s.size
  · exact parses_long p src dst s w hd
  · obtain ⟨x, rfl⟩ : ∃ n : Nat, src = n := ⟨src.toNat, by omega⟩
    obtain ⟨y, rfl⟩ : ∃ n : Nat, dst = n := ⟨dst.toNat, by omega⟩
    obtain ⟨l, rfl⟩ : ∃ l, s = ba l := ⟨_, ba_of s⟩
    rw [ba_size] at hd
    by_cases hp : (p = 6 ∨ p = 17) ∧ 8 ≤ l.length
    · exact parses_yes p x y l w (by omega) (by omega) (by omega) hp.1 hp.2
    · exact parses_no p x y l w (by omega) (by omega) (by omega) hp
#print axioms parses_all
end Go.Proofs.Ytekgblidpbkccaa
