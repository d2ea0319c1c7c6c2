/- The walks of a segment's header, and of its check sum. -/
import Derived.Test.YtohemlejceiojaaSgMath
import Derived.Test.YtohemlejceiojaaQSay
import Derived.Test.YtohemlejceiojaaSFew
import Derived.KernelRfl
namespace Go.Proofs.Ytohemlejceiojaa
open Go.RowKit
set_option linter.unusedVariables false

theorem or_20480 (n : Nat) (h : n ≤ 63) : bits .or .i64 20480 (n : Int) = ((20480 + n : Nat) : Int) := by
  have : (List.range 64).all (fun n => bits .or .i64 20480 (n : Int) == ((20480 + n : Nat) : Int)) = true := by kernel_rfl
  exact eq_of_beq (List.all_eq_true.1 this n (List.mem_range.2 (by omega)))

theorem IntRow.pair (a b : Int) (W : World) (r : Nat) (hr : r = W.heap.size) : IntRow [a, b] r (W.alloc (.cells #[.int .i64 a, .int .i64 b] 3)) := by
  rw [hr]; exact IntRow.two a b W

theorem ports_put (sp dp : Nat) (h1 : sp ≤ 65535) (h2 : dp ≤ 65535) : puts be2 65535 [] [(sp : Int), (dp : Int)] = some ([sp, dp].flatMap be2) := by
  have := puts_all be2 65535 2 (fun _ => rfl) [sp, dp] [] (by intro n hn; simp only [List.mem_cons, List.not_mem_nil, or_false] at hn; omega) (by simp)
  simpa using this

set_option maxHeartbeats 8000000 in
theorem head_tcp (sp dp sq ak fl wi : Nat) (d : ByteArray) (w : World) (h1 : sp ≤ 65535) (h2 : dp ≤ 65535) (h3 : sq < 4294967296) (h4 : ak < 4294967296) (h5 : fl ≤ 63) (h6 : wi ≤ 65535) :
    Calls Try.prog 11 #[.int .i64 6, sg sp dp sq ak fl wi d] w fun e w' => e = .returned (.tuple #[.string (ba (S.head6 sp dp sq ak fl wi)), .int .i64 16]) ∧ Below w.heap.size w w' := by
  have hor := or_20480 fl h5
  have Hhd : Hid (S.head6 sp dp sq ak fl wi = [sp, dp].flatMap be2 ++ ([sq, ak].flatMap word ++ [20480 + fl, wi, 0, 0].flatMap be2)) := Lib.hid rfl
  generalize S.head6 sp dp sq ak fl wi = HD at *
  have hF : 20480 + fl ≤ 65535 := by omega
  generalize 20480 + fl = F at *
  have Hc : Hid (∀ w' : World, w'.heap[w.heap.size]? = some (.cells #[.int .i64 (sp : Nat), .int .i64 (dp : Nat), .int .u32 (sq : Nat), .int .u32 (ak : Nat), .int .i64 (fl : Nat), .int .i64 (wi : Nat), .string d] 24 (0, 0)) → w'.cell? ⟨w.heap.size, 0, none⟩ = some (.int .i64 (sp : Nat)) ∧ w'.cell? ⟨w.heap.size, 1, none⟩ = some (.int .i64 (dp : Nat)) ∧ w'.cell? ⟨w.heap.size, 2, none⟩ = some (.int .u32 (sq : Nat)) ∧ w'.cell? ⟨w.heap.size, 3, none⟩ = some (.int .u32 (ak : Nat)) ∧ w'.cell? ⟨w.heap.size, 4, none⟩ = some (.int .i64 (fl : Nat)) ∧ w'.cell? ⟨w.heap.size, 5, none⟩ = some (.int .i64 (wi : Nat)) ∧ w'.cell? ⟨w.heap.size, 6, none⟩ = some (.string d)) :=
    Lib.hid fun w' hw' => by simp [World.cell?, hw']
  have hpk0 : (w.alloc (sgO sp dp sq ak fl wi d)).heap[w.heap.size]? = some (sgO sp dp sq ak fl wi d) := heap_alloc_new w _
  have hb0 : Below w.heap.size w (w.alloc (sgO sp dp sq ak fl wi d)) := (Below.refl _ w).alloc (Nat.le_refl _) _
  go_enter Try.func11, Try.ntmps11
  go_wp2_with fail
  have hwr1 : Wr w.heap.size (w.alloc (sgO sp dp sq ak fl wi d)).heap.size [] ((w.alloc (sgO sp dp sq ak fl wi d)).alloc (.cells #[.bool false, .slice none 0 0] 43)) := ⟨hb0.size, none, 0, heap_alloc_new _ _, World.ownsRow_nil _ _ _ _⟩
  refine (Short_any w.heap.size (w.heap.size + 1) _ 2 [] [(sp : Int), (dp : Int)] _ ((by simpa using hwr1 : Wr w.heap.size (w.heap.size + 1) [] ((w.alloc (sgO sp dp sq ak fl wi d)).alloc (.cells #[.bool false, .slice none 0 0] 43))).alloc _) (by simp) (IntRow.pair _ _ _ _ (by simp)) (by simp) (by simp)).mono ?_
  rintro e w2 ⟨rfl, ha, hk⟩
  rw [ports_put sp dp h1 h2] at ha
  have hwr2 : Wr w.heap.size (w.heap.size + 1) ([sp, dp].flatMap be2) w2 := ha.1
  have hpk2 : w2.heap[w.heap.size]? = some (sgO sp dp sq ak fl wi d) := hk.spare _ _ _ ((Below.heap_alloc _ _ _ (by simp; omega)).trans ((Below.heap_alloc _ _ _ (by simp)).trans hpk0)) (by omega) (by decide)
  have hb2w : Below w.heap.size w w2 := ((hb0.alloc hb0.size _).alloc (by simp; omega) _).trans hk.below
  clear ha hk hwr1 hpk0 hb0
  have hNb : w.heap.size ≠ w.heap.size + 1 := by omega
  go_upto_region 5 with fail
  generalize w.heap.size + 1 = b at *
  generalize hN : w.heap.size = N at *
  have hbase : N ≤ w.heap.size := by rw [hN]; exact Nat.le_refl _
  have hm0l : ([sp, dp].flatMap be2).length = 4 := rfl
  generalize [sp, dp].flatMap be2 = m0 at *
  have hrows : rowsB [.val (.pointer (some ⟨b, 0, none⟩)), .val (.pointer (some ⟨N, 2, none⟩)), .val (.int .u32 (sq : Nat)), .val (.pointer (some ⟨N, 3, none⟩)), .val (.int .u32 (ak : Nat)), .row #[.int .u32 (sq : Nat), .int .u32 (ak : Nat)] 22, .val (.pointer (some ⟨b, 0, none⟩)), .val (.pointer (some ⟨N, 4, none⟩)), .val (.int .i64 (fl : Nat)), .val (.int .i64 (F : Nat)), .val (.pointer (some ⟨N, 5, none⟩)), .val (.int .i64 (wi : Nat)), .row #[.int .i64 (F : Nat), .int .i64 (wi : Nat), .int .i64 0, .int .i64 0] 3, .val (.pointer (some ⟨b, 0, none⟩))] = true := by kernel_rfl
  have hsum : (m0 : List UInt8).length + (([(6, [sq, ak].flatMap word), (13, [F, wi, 0, 0].flatMap be2)] : List (Nat × List UInt8)).map fun c => c.2.length).sum ≤ 65535 := by rw [hm0l]; simp [word, be2]
  refine region_plan' (VS b [.val (.pointer (some ⟨b, 0, none⟩)), .val (.pointer (some ⟨N, 2, none⟩)), .val (.int .u32 (sq : Nat)), .val (.pointer (some ⟨N, 3, none⟩)), .val (.int .u32 (ak : Nat)), .row #[.int .u32 (sq : Nat), .int .u32 (ak : Nat)] 22, .val (.pointer (some ⟨b, 0, none⟩)), .val (.pointer (some ⟨N, 4, none⟩)), .val (.int .i64 (fl : Nat)), .val (.int .i64 (F : Nat)), .val (.pointer (some ⟨N, 5, none⟩)), .val (.int .i64 (wi : Nat)), .row #[.int .i64 (F : Nat), .int .i64 (wi : Nat), .int .i64 0, .int .i64 0] 3, .val (.pointer (some ⟨b, 0, none⟩))]) (ChS N w N #[.int .i64 (sp : Nat), .int .i64 (dp : Nat), .int .u32 (sq : Nat), .int .u32 (ak : Nat), .int .i64 (fl : Nat), .int .i64 (wi : Nat), .string d] 24 b m0 [(6, [sq, ak].flatMap word), (13, [F, wi, 0, 0].flatMap be2)]) (by kernel_rfl) (by kernel_rfl) ⟨hb2w.drew, hpk2, by rw [said_zero]; exact ⟨hwr2.low, hwr2.cells⟩⟩ ⟨?_, ?_, ?_, ?_, ?_, ?_, ?_, ?_, ?_, ?_, ?_, ?_, ?_, ?_, trivial⟩ ?_
  · intro listed a' w' hs hS hun hdep
    have e6 : a'.eval (.tmp 6) = .pointer (some ⟨b, 0, none⟩) := (hs.was' 6 (by kernel_rfl)).trans (rfl)
    have hcn := BigFrame.eval_const a'
    have hfn := BigFrame.eval_func a'
    generalize a'.eval = ev at *
    exact plan_val (.pointer (some ⟨b, 0, none⟩)) w' (by go_simp) ⟨rfl, hS.calm 0 (by kernel_rfl), fun _ _ h => h⟩
  · intro listed a' w' hs hS hun hdep
    have e3 : a'.eval (.tmp 3) = .pointer (some ⟨N, 0, none⟩) := (hs.was' 3 (by kernel_rfl)).trans (rfl)
    have hcn := BigFrame.eval_const a'
    have hfn := BigFrame.eval_func a'
    generalize a'.eval = ev at *
    exact plan_val (.pointer (some ⟨N, 2, none⟩)) w' (by go_simp) ⟨rfl, hS.calm 1 (by kernel_rfl), fun _ _ h => h⟩
  · intro listed a' w' hs hS hun hdep
    have e22 : a'.eval (.tmp 22) = .pointer (some ⟨N, 2, none⟩) := hs.eval 1 _ 22 rfl (hdep ⟨1, .data⟩ (by simp) rfl) rfl
    have hcn := BigFrame.eval_const a'
    have hfn := BigFrame.eval_func a'
    generalize a'.eval = ev at *
    obtain ⟨k0, k1, k2, k3, k4, k5, k6⟩ := Hc.out _ hS.pk
    exact plan_val (.int .u32 (sq : Nat)) w' (by go_simp) ⟨rfl, hS.calm 2 (by kernel_rfl), fun _ _ h => h⟩
  · intro listed a' w' hs hS hun hdep
    have e3 : a'.eval (.tmp 3) = .pointer (some ⟨N, 0, none⟩) := (hs.was' 3 (by kernel_rfl)).trans (rfl)
    have hcn := BigFrame.eval_const a'
    have hfn := BigFrame.eval_func a'
    generalize a'.eval = ev at *
    exact plan_val (.pointer (some ⟨N, 3, none⟩)) w' (by go_simp) ⟨rfl, hS.calm 3 (by kernel_rfl), fun _ _ h => h⟩
  · intro listed a' w' hs hS hun hdep
    have e24 : a'.eval (.tmp 24) = .pointer (some ⟨N, 3, none⟩) := hs.eval 3 _ 24 rfl (hdep ⟨3, .data⟩ (by simp) rfl) rfl
    have hcn := BigFrame.eval_const a'
    have hfn := BigFrame.eval_func a'
    generalize a'.eval = ev at *
    obtain ⟨k0, k1, k2, k3, k4, k5, k6⟩ := Hc.out _ hS.pk
    exact plan_val (.int .u32 (ak : Nat)) w' (by go_simp) ⟨rfl, hS.calm 4 (by kernel_rfl), fun _ _ h => h⟩
  · intro listed a' w' hs hS hun hdep
    have e23 : a'.eval (.tmp 23) = .int .u32 (sq : Nat) := hs.eval 2 _ 23 rfl (hdep ⟨2, .data⟩ (by simp) rfl) rfl
    have e25 : a'.eval (.tmp 25) = .int .u32 (ak : Nat) := hs.eval 4 _ 25 rfl (hdep ⟨4, .data⟩ (by simp) rfl) rfl
    have hcn := BigFrame.eval_const a'
    have hfn := BigFrame.eval_func a'
    generalize a'.eval = ev at *
    have hlt := hS.lt
    exact plan_val (.slice (some ⟨w'.heap.size, 0, none⟩) 2 2) (w'.alloc (.cells #[.int .u32 (sq : Nat), .int .u32 (ak : Nat)] 22)) (by go_simp) ⟨⟨w'.heap.size, by omega, rfl, heap_alloc_new w' _⟩, hS.below hbase ((Below.refl _ w').alloc (Nat.le_refl _) _) 5 (by kernel_rfl), VS.keep hrows (Spare.alloc b w' _)⟩
  · intro listed a' w' hs hS hun hdep
    have e21 : a'.eval (.tmp 21) = .pointer (some ⟨b, 0, none⟩) := hs.eval 0 _ 21 rfl (hdep ⟨0, .data⟩ (by simp) rfl) rfl
    have r26 : (Spec.row #[.int .u32 (sq : Nat), .int .u32 (ak : Nat)] 22).ok b (a'.eval (.tmp 26)) w' := hs.eval 5 _ 26 rfl (hdep ⟨5, .data⟩ (by simp) rfl) rfl
    generalize hg26 : a'.eval (.tmp 26) = g26 at r26
    have hcn := BigFrame.eval_const a'
    have hfn := BigFrame.eval_func a'
    generalize a'.eval = ev at *
    refine plan_call 24 #[.pointer (some ⟨b, 0, none⟩), g26] w' (by go_simp) ?_
    have n13 := hs.later 6 13 hun _ rfl .data (by simp) rfl
    have hsd : said m0 [(6, [sq, ak].flatMap word), (13, [F, wi, 0, 0].flatMap be2)] (listed.setIfInBounds 6 true) = said m0 [(6, [sq, ak].flatMap word), (13, [F, wi, 0, 0].flatMap be2)] listed ++ ([sq, ak].flatMap word) := said_call m0 [] [(13, [F, wi, 0, 0].flatMap be2)] 6 ([sq, ak].flatMap word) listed (by have := hs.size; simp at this; omega) hun (by kernel_rfl) (by kernel_rfl) (fun c hc => by simp only [List.mem_cons, List.not_mem_nil, or_false] at hc; rcases hc with rfl <;> first | exact getD_both n13)
    have hle : (said m0 [(6, [sq, ak].flatMap word), (13, [F, wi, 0, 0].flatMap be2)] listed).length + 8 ≤ 65535 := by have h1 := Nat.le_trans (said_le m0 [(6, [sq, ak].flatMap word), (13, [F, wi, 0, 0].flatMap be2)] (listed.setIfInBounds 6 true)) hsum; rw [hsd, List.length_append] at h1; have h2 : ([sq, ak].flatMap word).length = 8 := rfl; omega
    refine (word_row N b _ [sq, ak] _ g26 #[.int .u32 (sq : Nat), .int .u32 (ak : Nat)] w' hS.wr (by omega) (by simp) (by intro n hn; simp only [List.mem_cons, List.not_mem_nil, or_false] at hn; omega) rfl r26 (putsW_all [sq, ak] _ (by simp only [List.length_cons, List.length_nil]; omega))).mono ?_
    rintro e w'' ⟨rfl, hw, hk⟩
    exact ⟨_, rfl, rfl, hS.call hNb (by decide) hk 6 (by rw [hsd]; exact hw), VS.keep hrows hk.spare⟩
  · intro listed a' w' hs hS hun hdep
    have e3 : a'.eval (.tmp 3) = .pointer (some ⟨N, 0, none⟩) := (hs.was' 3 (by kernel_rfl)).trans (rfl)
    have hcn := BigFrame.eval_const a'
    have hfn := BigFrame.eval_func a'
    generalize a'.eval = ev at *
    exact plan_val (.pointer (some ⟨N, 4, none⟩)) w' (by go_simp) ⟨rfl, hS.calm 7 (by kernel_rfl), fun _ _ h => h⟩
  · intro listed a' w' hs hS hun hdep
    have e28 : a'.eval (.tmp 28) = .pointer (some ⟨N, 4, none⟩) := hs.eval 7 _ 28 rfl (hdep ⟨7, .data⟩ (by simp) rfl) rfl
    have hcn := BigFrame.eval_const a'
    have hfn := BigFrame.eval_func a'
    generalize a'.eval = ev at *
    obtain ⟨k0, k1, k2, k3, k4, k5, k6⟩ := Hc.out _ hS.pk
    exact plan_val (.int .i64 (fl : Nat)) w' (by go_simp) ⟨rfl, hS.calm 8 (by kernel_rfl), fun _ _ h => h⟩
  · intro listed a' w' hs hS hun hdep
    have e29 : a'.eval (.tmp 29) = .int .i64 (fl : Nat) := hs.eval 8 _ 29 rfl (hdep ⟨8, .data⟩ (by simp) rfl) rfl
    have hcn := BigFrame.eval_const a'
    have hfn := BigFrame.eval_func a'
    generalize a'.eval = ev at *
    exact plan_val (.int .i64 (F : Nat)) w' (by go_simp) ⟨rfl, hS.calm 9 (by kernel_rfl), fun _ _ h => h⟩
  · intro listed a' w' hs hS hun hdep
    have e3 : a'.eval (.tmp 3) = .pointer (some ⟨N, 0, none⟩) := (hs.was' 3 (by kernel_rfl)).trans (rfl)
    have hcn := BigFrame.eval_const a'
    have hfn := BigFrame.eval_func a'
    generalize a'.eval = ev at *
    exact plan_val (.pointer (some ⟨N, 5, none⟩)) w' (by go_simp) ⟨rfl, hS.calm 10 (by kernel_rfl), fun _ _ h => h⟩
  · intro listed a' w' hs hS hun hdep
    have e31 : a'.eval (.tmp 31) = .pointer (some ⟨N, 5, none⟩) := hs.eval 10 _ 31 rfl (hdep ⟨10, .data⟩ (by simp) rfl) rfl
    have hcn := BigFrame.eval_const a'
    have hfn := BigFrame.eval_func a'
    generalize a'.eval = ev at *
    obtain ⟨k0, k1, k2, k3, k4, k5, k6⟩ := Hc.out _ hS.pk
    exact plan_val (.int .i64 (wi : Nat)) w' (by go_simp) ⟨rfl, hS.calm 11 (by kernel_rfl), fun _ _ h => h⟩
  · intro listed a' w' hs hS hun hdep
    have e30 : a'.eval (.tmp 30) = .int .i64 (F : Nat) := hs.eval 9 _ 30 rfl (hdep ⟨9, .data⟩ (by simp) rfl) rfl
    have e32 : a'.eval (.tmp 32) = .int .i64 (wi : Nat) := hs.eval 11 _ 32 rfl (hdep ⟨11, .data⟩ (by simp) rfl) rfl
    have hcn := BigFrame.eval_const a'
    have hfn := BigFrame.eval_func a'
    generalize a'.eval = ev at *
    have hlt := hS.lt
    exact plan_val (.slice (some ⟨w'.heap.size, 0, none⟩) 4 4) (w'.alloc (.cells #[.int .i64 (F : Nat), .int .i64 (wi : Nat), .int .i64 0, .int .i64 0] 3)) (by go_simp) ⟨⟨w'.heap.size, by omega, rfl, heap_alloc_new w' _⟩, hS.below hbase ((Below.refl _ w').alloc (Nat.le_refl _) _) 12 (by kernel_rfl), VS.keep hrows (Spare.alloc b w' _)⟩
  · intro listed a' w' hs hS hun hdep
    have e27 : a'.eval (.tmp 27) = .pointer (some ⟨b, 0, none⟩) := hs.eval 6 _ 27 rfl (hdep ⟨6, .data⟩ (by simp) rfl) rfl
    have r33 : (Spec.row #[.int .i64 (F : Nat), .int .i64 (wi : Nat), .int .i64 0, .int .i64 0] 3).ok b (a'.eval (.tmp 33)) w' := hs.eval 12 _ 33 rfl (hdep ⟨12, .data⟩ (by simp) rfl) rfl
    generalize hg33 : a'.eval (.tmp 33) = g33 at r33
    have hcn := BigFrame.eval_const a'
    have hfn := BigFrame.eval_func a'
    generalize a'.eval = ev at *
    refine plan_call 13 #[.pointer (some ⟨b, 0, none⟩), g33] w' (by go_simp) ?_
    have hsd : said m0 [(6, [sq, ak].flatMap word), (13, [F, wi, 0, 0].flatMap be2)] (listed.setIfInBounds 13 true) = said m0 [(6, [sq, ak].flatMap word), (13, [F, wi, 0, 0].flatMap be2)] listed ++ ([F, wi, 0, 0].flatMap be2) := said_call m0 [(6, [sq, ak].flatMap word)] [] 13 ([F, wi, 0, 0].flatMap be2) listed (by have := hs.size; simp at this; omega) hun (by kernel_rfl) (by kernel_rfl) (fun c hc => by simp at hc)
    have hle : (said m0 [(6, [sq, ak].flatMap word), (13, [F, wi, 0, 0].flatMap be2)] listed).length + 8 ≤ 65535 := by have h1 := Nat.le_trans (said_le m0 [(6, [sq, ak].flatMap word), (13, [F, wi, 0, 0].flatMap be2)] (listed.setIfInBounds 13 true)) hsum; rw [hsd, List.length_append] at h1; have h2 : ([F, wi, 0, 0].flatMap be2).length = 8 := rfl; omega
    refine (short_row N b _ [(F : Int), (wi : Int), 0, 0] _ g33 #[.int .i64 (F : Nat), .int .i64 (wi : Nat), .int .i64 0, .int .i64 0] w' hS.wr (by omega) (by simp) rfl r33 (puts_all be2 65535 2 (fun _ => rfl) [F, wi, 0, 0] _ (by intro n hn; simp only [List.mem_cons, List.not_mem_nil, or_false] at hn; omega) (by simp only [List.length_cons, List.length_nil]; omega))).mono ?_
    rintro e w'' ⟨rfl, hw, hk⟩
    exact ⟨_, rfl, rfl, hS.call hNb (by decide) hk 13 (by rw [hsd]; exact hw), VS.keep hrows hk.spare⟩
  intro vs listed w3 hlen hV hall hS
  match vs, hlen, hV with
  | [v5_0, v5_1, v5_2, v5_3, v5_4, v5_5, v5_6, v5_7, v5_8, v5_9, v5_10, v5_11, v5_12, v5_13], _, hV =>
    have q0 : v5_0 = .pointer (some ⟨b, 0, none⟩) := hV 0 _ rfl
    have q1 : v5_1 = .pointer (some ⟨N, 2, none⟩) := hV 1 _ rfl
    have q2 : v5_2 = .int .u32 (sq : Nat) := hV 2 _ rfl
    have q3 : v5_3 = .pointer (some ⟨N, 3, none⟩) := hV 3 _ rfl
    have q4 : v5_4 = .int .u32 (ak : Nat) := hV 4 _ rfl
    obtain ⟨r5_5, _, q5, _⟩ : (Spec.row #[.int .u32 (sq : Nat), .int .u32 (ak : Nat)] 22).ok b v5_5 w3 := hV 5 _ rfl
    have q6 : v5_6 = .pointer (some ⟨b, 0, none⟩) := hV 6 _ rfl
    have q7 : v5_7 = .pointer (some ⟨N, 4, none⟩) := hV 7 _ rfl
    have q8 : v5_8 = .int .i64 (fl : Nat) := hV 8 _ rfl
    have q9 : v5_9 = .int .i64 (F : Nat) := hV 9 _ rfl
    have q10 : v5_10 = .pointer (some ⟨N, 5, none⟩) := hV 10 _ rfl
    have q11 : v5_11 = .int .i64 (wi : Nat) := hV 11 _ rfl
    obtain ⟨r5_12, _, q12, _⟩ : (Spec.row #[.int .i64 (F : Nat), .int .i64 (wi : Nat), .int .i64 0, .int .i64 0] 3).ok b v5_12 w3 := hV 12 _ rfl
    have q13 : v5_13 = .pointer (some ⟨b, 0, none⟩) := hV 13 _ rfl
    have hbel5 := hS.bel
    have hpk5 := hS.pk
    have hwr5 := hS.wr
    rw [said_all _ _ _ (fun c hc => by simp only [List.mem_cons, List.not_mem_nil, or_false] at hc; rcases hc with rfl | rfl <;> exact hall _ (by simp))] at hwr5
    subst q0 q1 q2 q3 q4 q5 q6 q7 q8 q9 q10 q11 q12 q13
    clear hV hall hS
    simp only [lays, Act.put, List.setIfInBounds_toArray, List.set_cons_zero, List.set_cons_succ]
    have hHD : m0 ++ (([(6, [sq, ak].flatMap word), (13, [F, wi, 0, 0].flatMap be2)] : List (Nat × List UInt8)).map (·.2)).flatten = HD := by
      rw [Hhd.out]
      simp only [List.map_cons, List.map_nil, List.flatten_cons, List.flatten_nil, List.append_nil]
    rw [hHD] at hwr5
    have hHl : HD.length = 20 := by rw [← hHD, List.length_append, hm0l]; rfl
    clear hHD hrows hsum hb2w hpk2 hwr2 Hhd Hc
    go_wp2_with fail
    refine (Done_any N b HD w3 hwr5 (by omega)).mono ?_
    rintro e w6 ⟨rfl, rfl⟩
    clear hwr5
    go_wp2
    go_ret2
    exact ⟨rfl, by rw [hN]; exact hbel5⟩

set_option maxHeartbeats 8000000 in
theorem head_udp (sp dp sq ak fl wi : Nat) (d : ByteArray) (w : World) (h1 : sp ≤ 65535) (h2 : dp ≤ 65535) (h3 : d.size ≤ 65507) :
    Calls Try.prog 11 #[.int .i64 17, sg sp dp sq ak fl wi d] w fun e w' => e = .returned (.tuple #[.string (ba (S.head17 sp dp d.size)), .int .i64 6]) ∧ Below w.heap.size w w' := by
  have Hhd : Hid (S.head17 sp dp d.size = [sp, dp].flatMap be2 ++ [8 + d.size, 0].flatMap be2) := Lib.hid rfl
  generalize S.head17 sp dp d.size = HD at *
  have hpk0 : (w.alloc (sgO sp dp sq ak fl wi d)).heap[w.heap.size]? = some (sgO sp dp sq ak fl wi d) := heap_alloc_new w _
  have hb0 : Below w.heap.size w (w.alloc (sgO sp dp sq ak fl wi d)) := (Below.refl _ w).alloc (Nat.le_refl _) _
  have Hc : Hid (∀ w' : World, w'.heap[w.heap.size]? = some (.cells #[.int .i64 (sp : Nat), .int .i64 (dp : Nat), .int .u32 (sq : Nat), .int .u32 (ak : Nat), .int .i64 (fl : Nat), .int .i64 (wi : Nat), .string d] 24 (0, 0)) → w'.cell? ⟨w.heap.size, 0, none⟩ = some (.int .i64 (sp : Nat)) ∧ w'.cell? ⟨w.heap.size, 1, none⟩ = some (.int .i64 (dp : Nat)) ∧ w'.cell? ⟨w.heap.size, 2, none⟩ = some (.int .u32 (sq : Nat)) ∧ w'.cell? ⟨w.heap.size, 3, none⟩ = some (.int .u32 (ak : Nat)) ∧ w'.cell? ⟨w.heap.size, 4, none⟩ = some (.int .i64 (fl : Nat)) ∧ w'.cell? ⟨w.heap.size, 5, none⟩ = some (.int .i64 (wi : Nat)) ∧ w'.cell? ⟨w.heap.size, 6, none⟩ = some (.string d)) :=
    Lib.hid fun w' hw' => by simp [World.cell?, hw']
  have hadd : IntKind.i64.wrap (8 + (d.size : Int)) = 8 + (d.size : Int) := IntWalk.i64_in _ (by omega)
  go_enter Try.func11, Try.ntmps11
  go_wp2_with fail
  have hwr1 : Wr w.heap.size (w.alloc (sgO sp dp sq ak fl wi d)).heap.size [] ((w.alloc (sgO sp dp sq ak fl wi d)).alloc (.cells #[.bool false, .slice none 0 0] 43)) := ⟨hb0.size, none, 0, heap_alloc_new _ _, World.ownsRow_nil _ _ _ _⟩
  refine (Short_any w.heap.size (w.heap.size + 1) _ 2 [] [(sp : Int), (dp : Int)] _ ((by simpa using hwr1 : Wr w.heap.size (w.heap.size + 1) [] ((w.alloc (sgO sp dp sq ak fl wi d)).alloc (.cells #[.bool false, .slice none 0 0] 43))).alloc _) (by simp) (IntRow.pair _ _ _ _ (by simp)) (by simp) (by simp)).mono ?_
  rintro e w2 ⟨rfl, ha, hk⟩
  rw [ports_put sp dp h1 h2] at ha
  have hwr2 : Wr w.heap.size (w.heap.size + 1) ([sp, dp].flatMap be2) w2 := ha.1
  have hpk2 : w2.heap[w.heap.size]? = some (sgO sp dp sq ak fl wi d) := hk.spare _ _ _ ((Below.heap_alloc _ _ _ (by simp; omega)).trans ((Below.heap_alloc _ _ _ (by simp)).trans hpk0)) (by omega) (by decide)
  have hb2w : Below w.heap.size w w2 := ((hb0.alloc hb0.size _).alloc (by simp; omega) _).trans hk.below
  clear ha hk hwr1 hpk0 hb0
  obtain ⟨k0, k1, k2, k3, k4, k5, k6⟩ := Hc.out _ hpk2
  clear Hc k0 k1 k2 k3 k4 k5
  have hlt2 := hwr2.lt
  go_wp2_with fail
  have hrow : IntRow [((8 + d.size : Nat) : Int), 0] w2.heap.size (w2.alloc (.cells #[.int .i64 (8 + (d.size : Int)), .int .i64 0] 3)) := by
    have := IntRow.pair ((8 + d.size : Nat) : Int) 0 w2 _ rfl
    rwa [show ((8 + d.size : Nat) : Int) = 8 + (d.size : Int) by omega] at this ⊢
  refine (Short_any w.heap.size (w.heap.size + 1) _ 2 ([sp, dp].flatMap be2) [((8 + d.size : Nat) : Int), 0] _ (hwr2.alloc _) (by simp [be2]) hrow (by omega) (by simp)).mono ?_
  rintro e w3 ⟨rfl, ha, hk⟩
  have hp := puts_all be2 65535 2 (fun _ => rfl) [8 + d.size, 0] ([sp, dp].flatMap be2) (by intro n hn; simp only [List.mem_cons, List.not_mem_nil, or_false] at hn; omega) (by simp [be2])
  have hp' : puts be2 65535 ([sp, dp].flatMap be2) [((8 + d.size : Nat) : Int), 0] = some ([sp, dp].flatMap be2 ++ [8 + d.size, 0].flatMap be2) := hp
  rw [hp', ← Hhd.out] at ha
  have hwr3 := ha.1
  have hHl : HD.length = 8 := by rw [Hhd.out]; rfl
  have hb3w : Below w.heap.size w w3 := (hb2w.alloc hb2w.size _).trans hk.below
  clear ha hk hp hp' hrow hwr2 hb2w hpk2 hlt2 Hhd k6 hadd
  go_wp2_with fail
  refine (Done_any _ _ HD w3 hwr3 (by omega)).mono ?_
  rintro e w6 ⟨rfl, rfl⟩
  clear hwr3
  go_wp2
  go_ret2
  exact ⟨rfl, hb3w⟩

theorem newCell3 (W : World) (cs : Array Value) (t : TypeId) (n i : Nat) (v : Value) (hn : n = W.heap.size) (hv : cs[i]? = some v) : (W.alloc (.cells cs t)).cell? ⟨n, i, none⟩ = some v := by
  subst hn
  simp only [World.cell?, heap_alloc_new]
  exact hv

set_option maxHeartbeats 4000000 in
theorem checkSum_any (p : Int) (src dst : Nat) (h : List UInt8) (d : ByteArray) (w : World) (hsrc : src < 4294967296) (hdst : dst < 4294967296) (hh : h.length ≤ 60) (hd : d.size ≤ 70000) (c : Nat) (hc : c = S.cks p src dst h d) :
    Calls Try.prog 14 #[.int .i64 p, .int .u32 src, .int .u32 dst, .string (ba h), .string d] w fun e w' => e = .returned (.int .i64 c) ∧ Below w.heap.size w w' := by
  have hj : IntKind.i64.wrap ((h.length : Int) + (d.size : Int)) = ((h.length + d.size : Nat) : Int) := by rw [IntWalk.i64_in _ (by omega)]; omega
  have hz := ba_size h
  have hps : (ba (pseudo src dst p ((h.length + d.size : Nat) : Int))).size = 12 := rfl
  have Hc := Lib.hid hc
  unfold S.cks at Hc
  have Hps := Lib.hid (pseudo_any src dst p ((h.length + d.size : Nat) : Int) w hsrc hdst)
  change Hid (Calls _ _ _ _ fun e w' => e = Ending.returned (.string (ba (pseudo src dst p ((h.length + d.size : Nat) : Int)))) ∧ _) at Hps
  generalize ba (pseudo src dst p ((h.length + d.size : Nat) : Int)) = P at *
  have HA : Hid ((ba h).size = h.length) := Lib.hid hz
  generalize ba h = A at *
  generalize hs : ((h.length + d.size : Nat) : Int) = z at *
  clear hc hs
  go_enter Try.func14, Try.ntmps14
  go_wp2_with fail
  refine Hps.out.mono ?_
  rintro e w1 ⟨rfl, hb1⟩
  clear Hps
  go_wp2_with fail
  refine (of_three P A d _ _ (by simp) (newCell3 _ _ _ _ _ _ rfl rfl) (newCell3 _ _ _ _ _ _ rfl rfl) (newCell3 _ _ _ _ _ _ rfl rfl) (by rw [HA.out]; omega)).mono ?_
  rintro e w2 ⟨rfl, hb2⟩
  have hb : Below w.heap.size w w2 := (hb1.alloc hb1.size _).trans (hb2.mono (by have := hb1.size; simp; omega))
  clear hb1 hb2
  generalize M.ofs [P, A, d] = n at *
  by_cases hp : p = 17
  · subst hp
    by_cases hn : n = 0
    · subst hn
      have hc' : c = 65535 := by rw [Hc.out]; rfl
      subst hc'
      go_wp2
      go_ret
      exact ⟨rfl, hb⟩
    · have e : ((n : Int) == 0) = false := by simp; omega
      have hc' : c = n := by rw [Hc.out]; unfold S.told; rw [if_neg (fun h => hn h.2)]
      subst hc'
      go_wp2
      go_ret
      exact ⟨rfl, hb⟩
  · have e : (p == 17) = false := by simpa using hp
    have hc' : c = n := by rw [Hc.out]; unfold S.told; rw [if_neg (fun h => hp h.1)]
    subst hc'
    clear hp
    go_wp2
    go_ret
    exact ⟨rfl, hb⟩
#print axioms head_tcp
#print axioms head_udp
#print axioms checkSum_any
end Go.Proofs.Ytohemlejceiojaa
