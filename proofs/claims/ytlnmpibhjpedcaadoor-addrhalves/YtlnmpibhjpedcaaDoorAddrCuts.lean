/- The walk of AddrCuts. -/
import Derived.Test.YtlnmpibhjpedcaaDoorAddrAwake
namespace Go.Proofs.YtlnmpibhjpedcaaDoor
open Go.RowKit

theorem cut_right (a : Nat) (c : Nat) (hc : c ≤ 32) : A.right (A.top a c) c = true := by
  unfold A.right A.top
  simp only [decide_eq_true_eq]
  exact ⟨by omega, by omega, Nat.mul_mod_left _ _⟩

theorem cut_has (a : Nat) (c : Nat) (hc : c ≤ 32) : A.holds (A.top a c) c a = true := by
  unfold A.holds
  rw [cut_right a c hc]
  simp only [Bool.true_and, decide_eq_true_eq]
  show A.top a c / 2 ^ (32 - c) = _
  unfold A.top
  exact Nat.mul_div_cancel _ (Nat.two_pow_pos _)

theorem top32 (a : Nat) : A.top a 32 = a := by unfold A.top; simp

theorem cut_within (a : Nat) (c : Nat) (hc : c ≤ 32) : A.within (A.top a 32) 32 (A.top a c) c = true := by
  unfold A.within
  rw [top32, cut_has a c hc, cut_right a c hc]
  have : A.right a 32 = true := by have := cut_right a 32 (by decide); rw [top32] at this; exact this
  rw [this]
  simp; omega

/-- A prefix in a block of the call's own, and nothing below it turned. -/
structure PI (w : World) (N T C : Nat) (v : World) : Prop where
  c0 : v.cell? ⟨N, 0, none⟩ = some (.int .u32 T)
  c1 : v.cell? ⟨N, 1, none⟩ = some (.int .i64 C)
  bel : Below w.heap.size w v
  lt : N < v.heap.size

theorem PI.step {w v v' : World} {N T C : Nat} (h : PI w N T C v) (hb : Below v.heap.size v v') : PI w N T C v' :=
  ⟨(hb.cell (p := ⟨N, 0, none⟩) h.lt).trans h.c0, (hb.cell (p := ⟨N, 1, none⟩) h.lt).trans h.c1, h.bel.trans (hb.mono h.bel.size), Nat.lt_of_lt_of_le h.lt hb.size⟩
theorem PI.drew {w v : World} {N T C : Nat} (h : PI w N T C v) : PI w N T C v.drew := ⟨h.c0, h.c1, h.bel.drew, h.lt⟩
theorem PI.new {w w1 : World} {T C : Nat} (h : Below w.heap.size w w1) : PI w w1.heap.size T C (w1.alloc (.cells #[.int .u32 T, .int .i64 C] 30)) :=
  ⟨by simp, by simp, h.alloc h.size _, by simp⟩

theorem clamp_min (b : Int) : min (max b 0) 32 = ((A.clamp b : Nat) : Int) := by
  unfold A.clamp
  split
  · omega
  · split <;> omega

set_option maxHeartbeats 2000000 in
theorem cuts_any (a : Nat) (b : Int) (w : World) (ha : a < 4294967296) (L : Laid w) :
    Calls Tryd.prog 6 #[.int .u32 a, .int .i64 b] w fun e w' => e = .returned (.bool true) ∧ Below w.heap.size w w' := by
  have HL := Lib.hid L
  have hcl := A.clamp_le b
  have hmm := clamp_min b
  generalize hc : A.clamp b = c at *
  have Hc := Lib.hid hc
  clear hc
  have H1 := Lib.hid (cut_right a _ hcl)
  have H2 := Lib.hid (cut_has a _ hcl)
  have H3 := Lib.hid (cut_within a _ hcl)
  have Hcl := Lib.hid hcl
  have ht := A.top_lt a c ha
  have Ha := Lib.hid ha
  have hand : bits BinOp.and IntKind.u32 (A.mask c : Int) (a : Int) = ((A.top a c : Nat) : Int) := by
    rw [and_u32 _ a (mask_lt _) ha, Nat.and_comm, A.and_mask a _ ha]
  have h32 : A.clamp 32 = 32 := by rfl
  have H32 := Lib.hid h32
  generalize hT : A.top a c = T at *
  have HT := Lib.hid hT
  have Ht := Lib.hid ht
  clear L hcl ha ht h32 hT
  go_enter Tryd.func6, Tryd.ntmps6
  go_wp2_with fail
  refine (cut_any a _ _ Ha.out).mono ?_
  rintro e w1 ⟨rfl, hb1⟩
  rw [Hc.out, HT.out]
  have hI := PI.new (T := T) (C := c) hb1
  clear hb1
  go_wp2_with fail
  generalize w1.alloc (.cells #[.int .u32 T, .int .i64 c] 30) = v at *
  generalize w1.heap.size = N at *
  have q0 := hI.c0
  have q1 := hI.c1
  go_region_held3 (fun v' => v'.cell? ⟨N, 0, none⟩ = some (.int .u32 T) ∧ v'.cell? ⟨N, 1, none⟩ = some (.int .i64 c)) (first | go_keep | (refine ⟨?_, ?_⟩ <;> assumption)) (first
    | ((go_at_call 14; (with_reducible refine (right_any T c _ Ht.out).mono ?_); rintro e v2 ⟨rfl, hb⟩; rw [H1.out]; have hI2 := PI.step (PI.drew hI) hb; have q02 := hI2.c0; have q12 := hI2.c1))
    | ((go_at_call 16; (with_reducible refine (holds_any T c a _ Ha.out).mono ?_); rintro e v3 ⟨rfl, hb⟩; rw [H2.out]; have hI3 := PI.step hI2 hb; have q03 := hI3.c0; have q13 := hI3.c1))
    | ((go_at_call 24; (with_reducible refine (mask_any _ _).mono ?_); rintro e v4 ⟨rfl, hw4⟩; subst hw4; rw [Hc.out]))
    | ((go_at_call 23; (with_reducible refine (cut_any a 32 _ Ha.out).mono ?_); rintro e v5 ⟨rfl, hb⟩; rw [H32.out]; have hI5 := PI.step hI3 hb; have q05 := hI5.c0; have q15 := hI5.c1))
    | ((go_at_call 18; (with_reducible refine (within_any _ _ T c _ (A.top_lt a 32 Ha.out)).mono ?_); rintro e v6 ⟨rfl, hb⟩; rw [H3.out]; have hI6 := PI.step hI5 hb; have q06 := hI6.c0; have q16 := hI6.c1))
    | ((go_at_call 8; (with_reducible refine (awake_any _ (HL.out.below HL.out.size hI6.bel hI6.bel.size)).mono ?_); rintro e v7 ⟨rfl, hb⟩; have hI7 := PI.step hI6 hb; have q07 := hI7.c0; have q17 := hI7.c1)))
  go_wp2
  go_ret
  exact ⟨rfl, PI.bel (N := N) (T := T) (C := c) (by assumption)⟩
#print axioms cuts_any
end Go.Proofs.YtlnmpibhjpedcaaDoor
