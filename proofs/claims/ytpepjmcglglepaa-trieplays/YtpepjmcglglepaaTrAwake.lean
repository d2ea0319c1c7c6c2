/- The walk of the document's example. -/
import Derived.Test.YtpepjmcglglepaaTrAdd2
import Derived.Test.YtpepjmcglglepaaTrFind2
namespace Go.Proofs.Ytpepjmcglglepaa
open Go.RowKit
set_option maxRecDepth 100000
set_option linter.unusedVariables false
open R

def R.r1 : Rt := ⟨167772160, 8, 1⟩
def R.r2 : Rt := ⟨167837696, 16, 2⟩
theorem R.find_a {r : Rt} {ok : Bool} (h : IsFind [R.r1, R.r2] 167838211 r ok) : ok = true ∧ r.o = 2 := by
  have h2 : A.holds R.r2.a R.r2.b 167838211 = true := by kernel_rfl
  cases ok
  · have := (h.no rfl).2 R.r2 (by simp)
    rw [h2] at this
    cases this
  · obtain ⟨h3, _, h4⟩ := h.yes rfl
    have := h4 R.r2 (by simp) h2
    refine ⟨rfl, ?_⟩
    simp only [List.mem_cons, List.not_mem_nil, or_false] at h3
    rcases h3 with rfl | rfl
    · exact absurd this (by decide)
    · rfl
theorem R.find_b {r : Rt} {ok : Bool} (h : IsFind [R.r1, R.r2] 167903232 r ok) : ok = true ∧ r.o = 1 := by
  have h2 : A.holds R.r1.a R.r1.b 167903232 = true := by kernel_rfl
  have h5 : A.holds R.r2.a R.r2.b 167903232 = false := by kernel_rfl
  cases ok
  · have := (h.no rfl).2 R.r1 (by simp)
    rw [h2] at this
    cases this
  · obtain ⟨h3, h6, h4⟩ := h.yes rfl
    refine ⟨rfl, ?_⟩
    simp only [List.mem_cons, List.not_mem_nil, or_false] at h3
    rcases h3 with rfl | rfl
    · rfl
    · rw [h5] at h6; cases h6
theorem Up.lt {X : Nat → Prop} {w w1 : World} (h : ∀ k, X k → k < w.heap.size) (hs : w.heap.size ≤ w1.heap.size) : ∀ k, Up X w w1 k → k < w1.heap.size := fun k hk => by
  rcases hk with hk | hk
  · have := h k hk; omega
  · exact hk.2
theorem Up.base {X : Nat → Prop} {w w1 : World} {B : Nat} (h : ∀ k, X k → B ≤ k) (hs : B ≤ w.heap.size) : ∀ k, Up X w w1 k → B ≤ k := fun k hk => by
  rcases hk with hk | hk
  · exact h k hk
  · omega

set_option maxHeartbeats 4000000 in
theorem awake_any (w : World) : Calls Try.prog 4 #[] w fun e w' => e = .returned (.bool true) ∧ Below w.heap.size w w' := by
  go_enter Try.func4, Try.ntmps4
  go_wp2_with fail
  refine (New_any w).mono ?_
  rintro e w1 ⟨g, rfl, hT1, hb1⟩
  have HT1 := Lib.hid hT1
  have hl1 : st0.nodes.length = 1 := rfl
  clear hT1
  go_wp2_with fail
  refine (Add_any _ g st0 [] R.r1 w1 HT1.out (fun k hk => hk.2) Inv.new (by decide) (by decide) (by decide)).mono ?_
  rintro e w2 ⟨rfl, hc2, st2, hT2, hI2, hl2⟩
  have e1 : R.addE [] R.r1 = 0 := by kernel_rfl
  rw [e1] at hI2 ⊢
  have HT2 := Lib.hid hT2
  have HI2 := Lib.hid hI2
  have hb2 : Below w.heap.size w w2 := hb1.trans (hc2.below (fun k hk => hk.1) hb1.size)
  have hs2 := hc2.size
  have hb1s := hb1.size
  clear hT2 hI2 hc2 HT1 hb1
  go_wp2_with fail
  refine (Add_any _ g st2 [R.r1] R.r2 w2 HT2.out (Up.lt (fun k hk => hk.2) hs2) HI2.out (by decide) (by decide) (by omega)).mono ?_
  rintro e w3 ⟨rfl, hc3, st3, hT3, hI3, hl3⟩
  have e2 : R.addE [R.r1] R.r2 = 0 := by kernel_rfl
  rw [e2] at hI3 ⊢
  have HT3 := Lib.hid hT3
  have HI3 : Hid (Inv st3 [R.r1, R.r2]) := Lib.hid hI3
  have hb3 : Below w.heap.size w w3 := hb2.trans (hc3.below (Up.base (fun k hk => hk.1) (by omega)) hb2.size)
  clear hT3 hI3 hc3 HT2 HI2 hb2
  obtain ⟨pl, hR, _⟩ := HI3.out
  have HR := Lib.hid hR
  clear hR
  go_wp2_with fail
  refine (Find_any _ g st3 [R.r1, R.r2] pl 167838211 w3 HT3.out HR.out (by decide) (by omega)).mono ?_
  rintro e w4 ⟨⟨ra, rb, ro⟩, ok, rfl, hf4, hb4⟩
  obtain ⟨rfl, ho⟩ := R.find_a hf4
  dsimp only at ho
  subst ho
  have HT4 := Lib.hid (HT3.out.below hb4)
  have hbw4 := hb3.trans (hb4.mono hb3.size)
  clear HT3 hb4 hb3 hf4
  unfold Rt.agg
  dsimp only
  have hb5 : Below w4.heap.size w4 (w4.alloc (.cells #[.int .u32 ra, .int .i64 rb, .int .i64 2] 31)) := (Below.refl _ _).alloc (Nat.le_refl _) _
  have HT5 := Lib.hid (HT4.out.below hb5)
  have hbw5 := hbw4.trans (hb5.mono hbw4.size)
  have k5 : (w4.alloc (.cells #[.int .u32 ra, .int .i64 rb, .int .i64 2] 31)).cell? ⟨w4.heap.size, 2, none⟩ = some (.int .i64 2) := cells_new w4 [.int .u32 ra, .int .i64 rb, .int .i64 2] 31 2 _ rfl
  clear HT4 hb5 hbw4
  go_wp2_with fail
  refine (Find_any _ g st3 [R.r1, R.r2] pl 167903232 _ HT5.out HR.out (by decide) (by omega)).mono ?_
  rintro e w6 ⟨⟨sa, sb, so⟩, ok, rfl, hf6, hb6⟩
  obtain ⟨rfl, ho⟩ := R.find_b hf6
  dsimp only at ho
  subst ho
  have k6 := cell_below hb6 k5
  have hbw6 := hbw5.trans (hb6.mono hbw5.size)
  clear HT5 hb6 hbw5 hf6 k5
  unfold Rt.agg
  dsimp only
  have hb7 : Below w6.heap.size w6 (w6.alloc (.cells #[.int .u32 sa, .int .i64 sb, .int .i64 1] 31)) := (Below.refl _ _).alloc (Nat.le_refl _) _
  have k7 := cell_below hb7 k6
  have k8 : (w6.alloc (.cells #[.int .u32 sa, .int .i64 sb, .int .i64 1] 31)).cell? ⟨w6.heap.size, 2, none⟩ = some (.int .i64 1) := cells_new w6 [.int .u32 sa, .int .i64 sb, .int .i64 1] 31 2 _ rfl
  have hbw7 := hbw6.trans (hb7.mono hbw6.size)
  clear k6 hb7 hbw6
  go_upto_region 6 with fail
  generalize w6.alloc (.cells #[.int .u32 sa, .int .i64 sb, .int .i64 1] 31) = w7 at *
  go_wp2
  go_ret
  exact ⟨rfl, hbw7⟩
#print axioms awake_any
end Go.Proofs.Ytpepjmcglglepaa
